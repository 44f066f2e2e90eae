"""The calls as they lie one behind another in one list, and the ranges of their numbers."""

from ridespark.crew import pairs_of

MOST_BYTES = 2000
MOST_BYTE = 255
MOST_PEOPLE = 3
MOST_SKILLS = 31
MOST_JOBS = 7
MOST_JOB_MINUTES = 1000
MOST_SKILL = 4

# Of each call, by its number: the least and the greatest of each of its numbers.
RANGES = (
    (),  # 0 open
    (),  # 1 check
    (),  # 2 print
    ((1, 100000),),  # 3 pass: minutes
    ((1, 6), (0, 1000000), (0, 1000)),  # 4 reading: sensor, minute, value
    ((1, 10), (1, 1000)),  # 5 run: ride, rounds
    ((1, 20), (1, 40)),  # 6 checked: check, who
    ((1, 10), (1, 40)),  # 7 lock: ride, who
    ((1, 10), (1, 40)),  # 8 unlock: ride, who
    ((1, 10), (1, 40), (1, 40), (1, 40)),  # 9 force: ride, who, one, another one
    ((1, 10),),  # 10 order: ride
    ((1, 250), (1, 40)),  # 11 finish: order, who
    ((1, 10), (0, 20)),  # 12 staff: ride, how many
    ((1, 40), (0, 1)),  # 13 leaves: who, 1 or 0
    ((1, 10),),  # 14 why: ride
    ((1, 10), (0, 1000000), (0, 250)),  # 15 whythen: ride, minute, first
    ((1, 20), (0, 1000000), (0, 250)),  # 16 rule: rule, minute, first
    ((1, 10),),  # 17 due: ride
    ((1, 10),),  # 18 locks: ride
    ((1, 10),),  # 19 orders: ride
    ((0, 1000000),),  # 20 openrides: minute
    (),  # 21 crew
    ((1, 250),),  # 22 entry: entry
    (),  # 23 state
)

CREW = 21

# How many rows stand behind the numbers of open, check and crew; of all other calls none.
ROWS = {0: 1, 1: 1, 21: 2}


class UnknownCall(ValueError):
    pass


class Call:
    def __init__(self, number, numbers):
        self.number = number
        self.numbers = numbers
        self.rows = []


def split_calls(calls):
    found = []
    at = 0
    while at < len(calls):
        number = calls[at]
        if not 0 <= number < len(RANGES):
            # How long it is isn't known, so the calls behind it can't be told apart.
            raise UnknownCall(f"no call has the number {number}")
        behind = at + 1 + len(RANGES[number])
        call = Call(number, calls[at + 1:behind])
        while len(call.rows) < ROWS.get(number, 0):
            start = behind + 1
            behind = start + calls[behind]
            call.rows.append(calls[start:behind])
        found.append(call)
        at = behind
    return found


def are_within(numbers, least, greatest):
    return all([least <= number <= greatest for number in numbers])


def is_text(row):
    return len(row) <= MOST_BYTES and are_within(row, 0, MOST_BYTE)


def are_skills(row):
    return 1 <= len(row) <= MOST_PEOPLE and are_within(row, 0, MOST_SKILLS)


def are_jobs(row):
    if len(row) % 2 != 0 or len(row) > 2 * MOST_JOBS:
        return False
    jobs = pairs_of(row)
    minutes = [job[0] for job in jobs]
    skills = [job[1] for job in jobs]
    return are_within(minutes, 1, MOST_JOB_MINUTES) and are_within(skills, 0, MOST_SKILL)


def are_rows_in_range(call):
    if call.number == CREW:
        return are_skills(call.rows[0]) and are_jobs(call.rows[1])
    return all([is_text(row) for row in call.rows])


def is_in_range(call):
    for number, limits in zip(call.numbers, RANGES[call.number]):
        if not limits[0] <= number <= limits[1]:
            return False
    return are_rows_in_range(call)


# The calls that have rows bring with them all that they look at.
def wants_park(call):
    return call.number not in ROWS
