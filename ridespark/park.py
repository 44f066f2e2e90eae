"""The calls on one park, and what they answer."""

from ridespark.calls import is_in_range, split_calls, wants_park
from ridespark.entries import CAME, CHECKED, FINISHED, FORCED, LEFT, LOCKED, ORDERED, RAN, READING, STAFFED, UNLOCKED
from ridespark.entries import Entry
from ridespark.plan import has_ride, one_form, plan_sizes, read_plan
from ridespark.questions import FIRST_QUESTION, answer_question
from ridespark.reasons import reasons_against
from ridespark.refusals import ENTRIES_FULL, FINISHED_ALREADY, LOCK_ON_OR_OFF, MAY_NOT_RUN, NOT_HERE_OR_HERE
from ridespark.refusals import NOT_TWO_OTHERS, NO_CHECK, NO_ORDER, NO_PARK, NO_RIDE, NO_SENSOR, OUT_OF_RANGE, PARK_TOLD
from ridespark.refusals import TEXT_WRONG, TOO_MANY_ROUNDS, TO_COME
from ridespark.upkeep import check_left, is_finished, is_gone, locks_on, rides_of_orders

MOST_ENTRIES = 250
LAST_MINUTE = 1000000


class Park:
    def __init__(self):
        self.plan = None
        self.minute = 0
        self.entries = []


def write_entry(park, kind, about, told=0, third=0, fourth=0):
    if len(park.entries) >= MOST_ENTRIES:
        return [ENTRIES_FULL]
    park.entries.append(Entry(park.minute, kind, about, told, third, fourth))
    return [0, len(park.entries)]


def has_lock(park, ride, who):
    return who in locks_on(park.entries, ride)


def tell_park(park, call):
    if park.plan is not None:
        return [PARK_TOLD]
    plan = read_plan(call.rows[0])
    if plan.wrong != 0:
        return [TEXT_WRONG]
    park.plan = plan
    return [0] + plan_sizes(plan)


def check_text(park, call):
    plan = read_plan(call.rows[0])
    if plan.wrong != 0:
        return [0, 1, plan.wrong, plan.wrong_line]
    return [0, 0] + plan_sizes(plan)


def show_park(park, call):
    return [0] + one_form(park.plan)


def pass_minutes(park, call):
    minute = park.minute + call.numbers[0]
    if minute > LAST_MINUTE:
        return [TO_COME]
    park.minute = minute
    return [0, minute]


def take_reading(park, call):
    sensor = call.numbers[0]
    minute = call.numbers[1]
    if sensor > len(park.plan.sensors):
        return [NO_SENSOR]
    if minute > park.minute:
        return [TO_COME]
    return write_entry(park, READING, sensor, minute, call.numbers[2])


def checks_let(park, ride, rounds):
    for number, check in enumerate(park.plan.checks, start=1):
        if check.ride == ride and not check.by_days:
            if check_left(check, number, park.entries, park.minute) < rounds:
                return False
    return True


def run_ride(park, call):
    ride = call.numbers[0]
    rounds = call.numbers[1]
    if not has_ride(park.plan, ride):
        return [NO_RIDE]
    if len(reasons_against(park.plan, park.entries, ride, park.minute)) > 0:
        return [MAY_NOT_RUN]
    if not checks_let(park, ride, rounds):
        return [TOO_MANY_ROUNDS]
    return write_entry(park, RAN, ride, rounds)


def make_check(park, call):
    number = call.numbers[0]
    who = call.numbers[1]
    if number > len(park.plan.checks):
        return [NO_CHECK]
    if is_gone(park.entries, who):
        return [NOT_HERE_OR_HERE]
    return write_entry(park, CHECKED, number, who)


def put_lock_on(park, call):
    ride = call.numbers[0]
    who = call.numbers[1]
    if not has_ride(park.plan, ride):
        return [NO_RIDE]
    if is_gone(park.entries, who):
        return [NOT_HERE_OR_HERE]
    if has_lock(park, ride, who):
        return [LOCK_ON_OR_OFF]
    return write_entry(park, LOCKED, ride, who)


def take_lock_off(park, call):
    ride = call.numbers[0]
    who = call.numbers[1]
    if not has_ride(park.plan, ride):
        return [NO_RIDE]
    if is_gone(park.entries, who):
        return [NOT_HERE_OR_HERE]
    if not has_lock(park, ride, who):
        return [LOCK_ON_OR_OFF]
    return write_entry(park, UNLOCKED, ride, who)


def force_lock_off(park, call):
    ride = call.numbers[0]
    who = call.numbers[1]
    one = call.numbers[2]
    another = call.numbers[3]
    if not has_ride(park.plan, ride):
        return [NO_RIDE]
    if not is_gone(park.entries, who):
        return [NOT_HERE_OR_HERE]
    if not has_lock(park, ride, who):
        return [LOCK_ON_OR_OFF]
    # Whose lock it is can't be one of the two: they are gone.
    if one == another or is_gone(park.entries, one) or is_gone(park.entries, another):
        return [NOT_TWO_OTHERS]
    return write_entry(park, FORCED, ride, who, one, another)


def order_work(park, call):
    ride = call.numbers[0]
    if not has_ride(park.plan, ride):
        return [NO_RIDE]
    answer = write_entry(park, ORDERED, ride)
    if answer[0] == 0:
        answer.append(len(rides_of_orders(park.entries)))
    return answer


def finish_order(park, call):
    order = call.numbers[0]
    who = call.numbers[1]
    rides = rides_of_orders(park.entries)
    if order > len(rides):
        return [NO_ORDER]
    if is_finished(park.entries, order):
        return [FINISHED_ALREADY]
    if is_gone(park.entries, who):
        return [NOT_HERE_OR_HERE]
    if not has_lock(park, rides[order - 1], who):
        return [LOCK_ON_OR_OFF]
    return write_entry(park, FINISHED, order, who)


def tell_staff(park, call):
    ride = call.numbers[0]
    if not has_ride(park.plan, ride):
        return [NO_RIDE]
    return write_entry(park, STAFFED, ride, call.numbers[1])


def leave_or_come(park, call):
    who = call.numbers[0]
    leaves = call.numbers[1] == 1
    if is_gone(park.entries, who) == leaves:
        return [NOT_HERE_OR_HERE]
    return write_entry(park, LEFT if leaves else CAME, who)


# By the calls' numbers; those behind them are questions.
HANDLERS = (
    tell_park,
    check_text,
    show_park,
    pass_minutes,
    take_reading,
    run_ride,
    make_check,
    put_lock_on,
    take_lock_off,
    force_lock_off,
    order_work,
    finish_order,
    tell_staff,
    leave_or_come,
)


def answer_call(park, call):
    if not is_in_range(call):
        return [OUT_OF_RANGE]
    if park.plan is None and wants_park(call):
        return [NO_PARK]
    if call.number >= FIRST_QUESTION:
        return answer_question(park, call)
    handler = HANDLERS[call.number]
    return handler(park, call)


def answers(calls):
    park = Park()
    told = []
    for call in split_calls(calls):
        answer = answer_call(park, call)
        told.append(len(answer))
        told.extend(answer)
    return told
