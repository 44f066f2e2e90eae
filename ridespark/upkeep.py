"""What entries tell of checks, locks, orders, staff and people."""

from ridespark.entries import CAME, CHECKED, FINISHED, FORCED, LEFT, LOCKED, ORDERED, RAN, STAFFED, UNLOCKED

DAY = 1440


# The entry's number, 0 if the check was never made.
def last_made(entries, check_number):
    made = 0
    for number, entry in enumerate(entries, start=1):
        if entry.kind == CHECKED and entry.about == check_number:
            made = number
    return made


def rounds_run(entries, ride):
    return sum([entry.told for entry in entries if entry.kind == RAN and entry.about == ride])


def check_left(check, check_number, entries, minute):
    made = last_made(entries, check_number)
    if made == 0:
        return 0
    if check.by_days:
        left = entries[made - 1].written // DAY + check.span - minute // DAY
    else:
        left = check.span - rounds_run(entries[made:], check.ride)
    return max(0, left)


def locks_on(entries, ride):
    holders = []
    for entry in entries:
        if entry.kind == LOCKED and entry.about == ride:
            holders.append(entry.told)
        elif entry.kind in (UNLOCKED, FORCED) and entry.about == ride:
            holders.remove(entry.told)
    return holders


# The ride of each order, in the order of their numbers.
def rides_of_orders(entries):
    return [entry.about for entry in entries if entry.kind == ORDERED]


def is_finished(entries, order):
    return any([entry.kind == FINISHED and entry.about == order for entry in entries])


def orders_waiting(entries, ride):
    waiting = []
    for order, ordered_for in enumerate(rides_of_orders(entries), start=1):
        if ordered_for == ride and not is_finished(entries, order):
            waiting.append(order)
    return waiting


def staff_of(entries, ride):
    staff = 0
    for entry in entries:
        if entry.kind == STAFFED and entry.about == ride:
            staff = entry.told
    return staff


def is_gone(entries, who):
    gone = False
    for entry in entries:
        if entry.kind in (LEFT, CAME) and entry.about == who:
            gone = entry.kind == LEFT
    return gone
