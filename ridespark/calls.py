"""The calls as they lie one behind another in one list, and the ranges of their numbers."""

MOST_BYTES = 2000
MOST_BYTE = 255

# Of each call, by its number: the least and the greatest of each of its numbers.
RANGES = (
    (),  # 0 open
    (),  # 1 check
    (),  # 2 print
    ((1, 100000),),  # 3 pass: minutes
    ((1, 6), (0, 1000000), (0, 1000)),  # 4 reading: sensor, minute, value
    ((1, 10), (1, 1000)),  # 5 run: ride, rounds
    ((1, 20), (1, 40)),  # 6 checked: check, who
    ((1, 10), (1, 40)),  # 7 lock: ride, who
    ((1, 10), (1, 40)),  # 8 unlock: ride, who
    ((1, 10), (1, 40), (1, 40), (1, 40)),  # 9 force: ride, who, one, another one
    ((1, 10),),  # 10 order: ride
    ((1, 250), (1, 40)),  # 11 finish: order, who
    ((1, 10), (0, 20)),  # 12 staff: ride, how many
    ((1, 40), (0, 1)),  # 13 leaves: who, 1 or 0
)

CALLS_WITH_TEXT = (0, 1)


class UnknownCall(ValueError):
    pass


class Call:
    def __init__(self, number, numbers, text):
        self.number = number
        self.numbers = numbers
        self.text = text


def split_calls(calls):
    found = []
    at = 0
    while at < len(calls):
        number = calls[at]
        if not 0 <= number < len(RANGES):
            # How long it is isn't known, so the calls behind it can't be told apart.
            raise UnknownCall(f"no call has the number {number}")
        behind = at + 1 + len(RANGES[number])
        numbers = calls[at + 1:behind]
        text = []
        if number in CALLS_WITH_TEXT:
            start = behind + 1
            behind = start + calls[behind]
            text = calls[start:behind]
        found.append(Call(number, numbers, text))
        at = behind
    return found


def is_in_range(call):
    for number, limits in zip(call.numbers, RANGES[call.number]):
        if not limits[0] <= number <= limits[1]:
            return False
    return len(call.text) <= MOST_BYTES and all([0 <= byte <= MOST_BYTE for byte in call.text])
