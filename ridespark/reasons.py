"""Why a ride may not run, by some entries, at some minute."""

from ridespark.upkeep import check_left, locks_on, orders_waiting, staff_of
from ridespark.weather import is_stale, readings_of, walk_rule

SENSOR_STALE = 1
RULE_SHUT = 2
CHECK_DUE = 3
LOCK_ON = 4
ORDER_WAITS = 5
STAFF_SHORT = 6


def rule_reasons(plan, entries, ride, minute):
    stale = []
    shut = []
    for number, rule in enumerate(plan.rules, start=1):
        if rule.ride == ride:
            readings = readings_of(entries, rule.sensor, minute)
            if is_stale(plan.sensors[rule.sensor - 1], readings, minute):
                stale.append((SENSOR_STALE, number))
            if walk_rule(rule, readings).shut:
                shut.append((RULE_SHUT, number))
    return stale + shut


def check_reasons(plan, entries, ride, minute):
    due = []
    for number, check in enumerate(plan.checks, start=1):
        if check.ride == ride and check_left(check, number, entries, minute) == 0:
            due.append((CHECK_DUE, number))
    return due


def staff_reasons(plan, entries, ride):
    missing = plan.rides[ride - 1].staff - staff_of(entries, ride)
    return [(STAFF_SHORT, missing)] if missing > 0 else []


def reasons_against(plan, entries, ride, minute):
    reasons = rule_reasons(plan, entries, ride, minute)
    reasons.extend(check_reasons(plan, entries, ride, minute))
    reasons.extend([(LOCK_ON, who) for who in locks_on(entries, ride)])
    reasons.extend([(ORDER_WAITS, order) for order in orders_waiting(entries, ride)])
    reasons.extend(staff_reasons(plan, entries, ride))
    return reasons
