"""The park as a text: its lines, what's wrong with them, and the one form."""

NO_SUCH_LINE = 1
WRONG_NAME = 2
WRONG_NUMBER = 3
TOO_MANY = 4

MOST_SENSORS = 6
MOST_RIDES = 10
MOST_RULES = 20
MOST_CHECKS = 20

MOST_MINUTES = 1440
MOST_STAFF = 9
MOST_LEVEL = 1000
MOST_SPAN = 10000

DIGITS = "0123456789"
LETTERS = "abcdefghijklmnopqrstuvwxyz"

NAME = "n"
NUMBER = "0"

# No word of a line is as short as the marks for a name and a number, so none is taken for one.
FORMS = (
    "sensor n stale 0",
    "ride n staff 0",
    "rule n n above 0 below 0 hold 0",
    "rule n n below 0 above 0 hold 0",
    "check n n days 0",
    "check n n rounds 0",
)


class Sensor:
    def __init__(self, name, stale, line):
        self.name = name
        self.stale = stale
        self.line = line


class Ride:
    def __init__(self, name, staff, line):
        self.name = name
        self.staff = staff
        self.line = line


class Rule:
    def __init__(self, ride, sensor, shuts_above, levels, line):
        self.ride = ride
        self.sensor = sensor
        self.shuts_above = shuts_above
        self.shut_level = levels[0]
        self.fine_level = levels[1]
        self.hold = levels[2]
        self.line = line


class Check:
    def __init__(self, ride, name, by_days, span, line):
        self.ride = ride
        self.name = name
        self.by_days = by_days
        self.span = span
        self.line = line


class Plan:
    def __init__(self):
        self.sensors = []
        self.rides = []
        self.rules = []
        self.checks = []
        self.wrong = 0
        self.wrong_line = 0


class Line:
    def __init__(self, text, words, marks):
        self.text = text
        self.words = words
        self.names = [word for word, mark in zip(words, marks) if mark == NAME]
        self.numbers = [int(word) for word, mark in zip(words, marks) if mark == NUMBER]


def sign_of(byte):
    if byte == 10:
        return "\n"
    if byte == 32:
        return " "
    if 48 <= byte <= 57:
        return DIGITS[byte - 48]
    if 97 <= byte <= 122:
        return LETTERS[byte - 97]
    # No line has such a byte, so whichever it was, its line is wrong.
    return "?"


def is_name(word):
    return len(word) <= 8 and word.isalpha()


def is_number(word):
    return len(word) <= 5 and word.isdigit() and (word == "0" or word[0] != "0")


def word_fits(word, mark):
    if mark == NAME:
        return is_name(word)
    if mark == NUMBER:
        return is_number(word)
    return word == mark


def words_fit(words, marks):
    if len(words) != len(marks):
        return False
    return all([word_fits(word, mark) for word, mark in zip(words, marks)])


# None if the text isn't a line of a park.
def split_line(text):
    words = text.split(" ")
    for form in FORMS:
        marks = form.split(" ")
        if words_fit(words, marks):
            return Line(text, words, marks)
    return None


# From 1, as the document numbers them; 0 if none is called so.
def number_of(things, name):
    for number, thing in enumerate(things, start=1):
        if thing.name == name:
            return number
    return 0


# The adders answer 0 if the line was added, else what's wrong with it.
def add_sensor(plan, line):
    name = line.names[0]
    stale = line.numbers[0]
    if number_of(plan.sensors, name) != 0:
        return WRONG_NAME
    if stale > MOST_MINUTES:
        return WRONG_NUMBER
    if len(plan.sensors) >= MOST_SENSORS:
        return TOO_MANY
    plan.sensors.append(Sensor(name, stale, line.text))
    return 0


def add_ride(plan, line):
    name = line.names[0]
    staff = line.numbers[0]
    if number_of(plan.rides, name) != 0:
        return WRONG_NAME
    if staff > MOST_STAFF:
        return WRONG_NUMBER
    if len(plan.rides) >= MOST_RIDES:
        return TOO_MANY
    plan.rides.append(Ride(name, staff, line.text))
    return 0


def levels_are_wrong(shuts_above, levels):
    shut_level = levels[0]
    fine_level = levels[1]
    if max(shut_level, fine_level) > MOST_LEVEL or levels[2] > MOST_MINUTES:
        return True
    if shuts_above:
        return fine_level > shut_level
    return shut_level > fine_level


def add_rule(plan, line):
    ride = number_of(plan.rides, line.names[0])
    sensor = number_of(plan.sensors, line.names[1])
    shuts_above = line.words[3] == "above"
    if ride == 0 or sensor == 0:
        return WRONG_NAME
    if levels_are_wrong(shuts_above, line.numbers):
        return WRONG_NUMBER
    if len(plan.rules) >= MOST_RULES:
        return TOO_MANY
    plan.rules.append(Rule(ride, sensor, shuts_above, line.numbers, line.text))
    return 0


def has_check(plan, ride, name):
    return any([check.ride == ride and check.name == name for check in plan.checks])


def add_check(plan, line):
    ride = number_of(plan.rides, line.names[0])
    name = line.names[1]
    by_days = line.words[3] == "days"
    span = line.numbers[0]
    if ride == 0 or has_check(plan, ride, name):
        return WRONG_NAME
    if not 1 <= span <= MOST_SPAN:
        return WRONG_NUMBER
    if len(plan.checks) >= MOST_CHECKS:
        return TOO_MANY
    plan.checks.append(Check(ride, name, by_days, span, line.text))
    return 0


ADDERS = {"sensor": add_sensor, "ride": add_ride, "rule": add_rule, "check": add_check}


def add_line(plan, text):
    line = split_line(text)
    if line is None:
        return NO_SUCH_LINE
    adder = ADDERS[line.words[0]]
    return adder(plan, line)


def read_plan(text):
    plan = Plan()
    lines = "".join([sign_of(byte) for byte in text]).split("\n")
    rest = lines.pop()
    for number, line in enumerate(lines, start=1):
        plan.wrong = add_line(plan, line)
        if plan.wrong != 0:
            plan.wrong_line = number
            return plan
    if rest != "":
        plan.wrong = NO_SUCH_LINE
        plan.wrong_line = len(lines) + 1
    return plan


def has_ride(plan, ride):
    return ride <= len(plan.rides)


def plan_sizes(plan):
    return [len(plan.sensors), len(plan.rides), len(plan.rules), len(plan.checks)]


# A line can be written in one way only, so the lines told are those of the one form.
def one_form(plan):
    lines = [thing.line + "\n" for thing in plan.sensors + plan.rides + plan.rules + plan.checks]
    return [ord(sign) for sign in "".join(lines)]
