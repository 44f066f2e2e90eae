"""Calls by name, and their answers taken apart."""

from ridespark.park import answers

PRINT = [2]
STATE = [23]
SHUT = [-9]


def as_bytes(text):
    return [ord(sign) for sign in text] if isinstance(text, str) else list(text)


def tell(text):
    body = as_bytes(text)
    return [0, len(body)] + body


def check(text):
    body = as_bytes(text)
    return [1, len(body)] + body


def wait(minutes):
    return [3, minutes]


def reading(sensor, minute, value):
    return [4, sensor, minute, value]


def run(ride=1, rounds=1):
    return [5, ride, rounds]


def checked(number, who=1):
    return [6, number, who]


def lock(ride, who):
    return [7, ride, who]


def unlock(ride, who):
    return [8, ride, who]


def force(ride, who, one, another):
    return [9, ride, who, one, another]


def order(ride):
    return [10, ride]


def finish(number, who):
    return [11, number, who]


def staff(ride, many):
    return [12, ride, many]


def leave(who):
    return [13, who, 1]


def come(who):
    return [13, who, 0]


def why(ride=1):
    return [14, ride]


def why_then(ride, minute, first):
    return [15, ride, minute, first]


def rule(number, minute, first=250):
    return [16, number, minute, first]


def due(ride=1):
    return [17, ride]


def locks(ride=1):
    return [18, ride]


def orders(ride=1):
    return [19, ride]


def open_rides(minute):
    return [20, minute]


def crew(skills, jobs):
    return [21, len(skills), *skills, len(jobs), *jobs]


def entry(number):
    return [22, number]


def joined(calls):
    return [number for call in calls for number in call]


def taken_apart(told):
    found = []
    at = 0
    while at < len(told):
        behind = at + 1 + told[at]
        found.append(told[at + 1:behind])
        at = behind
    return found


def ask(*calls):
    found = taken_apart(answers(joined(calls)))
    if len(found) != len(calls):
        raise AssertionError(f"{len(calls)} calls, {len(found)} answers")
    return found


def last(*calls):
    return ask(*calls)[-1]


def may_run(*calls):
    """Whether ride 1 may run one round behind these calls, which must all be accepted."""
    found = ask(*calls, run())
    for call, answer in zip(calls, found):
        if answer[0] != 0:
            raise AssertionError(f"{call} was answered {answer}")
    if found[-1] != SHUT and found[-1][0] != 0:
        raise AssertionError(f"run was answered {found[-1]}")
    return found[-1] != SHUT


def passed(minutes):
    """Calls that pass so many minutes, however many."""
    calls = [wait(100000)] * (minutes // 100000)
    return calls + [wait(minutes % 100000)] if minutes % 100000 else calls
