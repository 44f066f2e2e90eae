"""The calls that write nothing down and tell what's known: why to state."""

from ridespark.crew import best_way, pairs_of, time_taken
from ridespark.plan import has_ride
from ridespark.reasons import reasons_against
from ridespark.refusals import NO_ENTRY, NO_RIDE, NO_RULE, NO_WAY
from ridespark.upkeep import check_left, locks_on, orders_waiting, rides_of_orders
from ridespark.weather import NEVER, readings_of, walk_rule

FIRST_QUESTION = 14


def reasons_told(reasons):
    told = [len(reasons)]
    for reason, number in reasons:
        told.append(reason)
        told.append(number)
    return told


def list_told(numbers):
    return [len(numbers)] + numbers


def answer_why(park, call):
    ride = call.numbers[0]
    if not has_ride(park.plan, ride):
        return [NO_RIDE]
    return [0] + reasons_told(reasons_against(park.plan, park.entries, ride, park.minute))


def answer_whythen(park, call):
    ride = call.numbers[0]
    minute = call.numbers[1]
    known = park.entries[:call.numbers[2]]
    if not has_ride(park.plan, ride):
        return [NO_RIDE]
    return [0] + reasons_told(reasons_against(park.plan, known, ride, minute))


def answer_rule(park, call):
    number = call.numbers[0]
    minute = call.numbers[1]
    known = park.entries[:call.numbers[2]]
    if number > len(park.plan.rules):
        return [NO_RULE]
    rule = park.plan.rules[number - 1]
    readings = readings_of(known, rule.sensor, minute)
    walked = walk_rule(rule, readings)
    last_minute = readings[-1][0] if len(readings) > 0 else NEVER
    return [0, 1 if walked.shut else 0, walked.last_bad, len(readings), last_minute]


def answer_due(park, call):
    ride = call.numbers[0]
    if not has_ride(park.plan, ride):
        return [NO_RIDE]
    told = [0]
    for number, check in enumerate(park.plan.checks, start=1):
        if check.ride == ride:
            left = check_left(check, number, park.entries, park.minute)
            told.extend([number, 1 if check.by_days else 0, left])
    return told


def answer_locks(park, call):
    ride = call.numbers[0]
    if not has_ride(park.plan, ride):
        return [NO_RIDE]
    return [0] + list_told(locks_on(park.entries, ride))


def answer_orders(park, call):
    ride = call.numbers[0]
    if not has_ride(park.plan, ride):
        return [NO_RIDE]
    return [0] + list_told(orders_waiting(park.entries, ride))


def answer_openrides(park, call):
    minute = call.numbers[0]
    rides = []
    for ride in range(1, len(park.plan.rides) + 1):
        if len(reasons_against(park.plan, park.entries, ride, minute)) == 0:
            rides.append(ride)
    return [0] + list_told(rides)


def answer_crew(park, call):
    crew = call.rows[0]
    jobs = pairs_of(call.rows[1])
    way = best_way(crew, jobs)
    if way is None:
        return [NO_WAY]
    return [0, time_taken(way, crew, jobs)] + way


def answer_entry(park, call):
    number = call.numbers[0]
    if number > len(park.entries):
        return [NO_ENTRY]
    entry = park.entries[number - 1]
    return [0, entry.written, entry.kind, entry.about, entry.told, entry.third, entry.fourth]


def answer_state(park, call):
    return [0, park.minute, len(park.entries), len(rides_of_orders(park.entries))]


# By the calls' numbers, from FIRST_QUESTION on.
ANSWERERS = (
    answer_why,
    answer_whythen,
    answer_rule,
    answer_due,
    answer_locks,
    answer_orders,
    answer_openrides,
    answer_crew,
    answer_entry,
    answer_state,
)


def answer_question(park, call):
    answerer = ANSWERERS[call.number - FIRST_QUESTION]
    return answerer(park, call)
