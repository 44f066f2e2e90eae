"""Readings by their minutes, and what rules and sensors make of them."""

from ridespark.entries import READING

NEVER = -1


class Walked:
    def __init__(self, shut, last_bad):
        self.shut = shut
        self.last_bad = last_bad


# Pairs of minute and value. Sorting by the minute alone leaves those of one minute as they were written.
def readings_of(entries, sensor, minute):
    readings = []
    for entry in entries:
        if entry.kind == READING and entry.about == sensor and entry.told <= minute:
            readings.append((entry.told, entry.third))
    return sorted(readings, key=lambda reading: reading[0])


def is_bad(rule, value):
    if rule.shuts_above:
        return value >= rule.shut_level
    return value <= rule.shut_level


def is_fine(rule, value):
    if rule.shuts_above:
        return value <= rule.fine_level
    return value >= rule.fine_level


# last_bad is the minute of the last bad reading, or NEVER.
def walk_rule(rule, readings):
    shut = True
    last_bad = NEVER
    for minute, value in readings:
        if is_bad(rule, value):
            shut = True
            last_bad = minute
        elif is_fine(rule, value) and (last_bad == NEVER or minute - last_bad >= rule.hold):
            shut = False
    return Walked(shut, last_bad)


def is_stale(sensor, readings, minute):
    if len(readings) == 0:
        return True
    return sensor.stale != 0 and readings[-1][0] + sensor.stale < minute
