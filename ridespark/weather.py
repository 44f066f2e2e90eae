"""Readings by their minutes, and what rules and sensors make of them."""

from ridespark.entries import READING


# Pairs of minute and value. Sorting by the minute alone leaves those of one minute as they were written.
def readings_of(entries, sensor, minute):
    readings = []
    for entry in entries:
        if entry.kind == READING and entry.about == sensor and entry.told <= minute:
            readings.append((entry.told, entry.third))
    return sorted(readings, key=lambda reading: reading[0])


def is_bad(rule, value):
    if rule.shuts_above:
        return value >= rule.shut_level
    return value <= rule.shut_level


def is_fine(rule, value):
    if rule.shuts_above:
        return value <= rule.fine_level
    return value >= rule.fine_level


def is_shut(rule, readings):
    shut = True
    last_bad = None
    for minute, value in readings:
        if is_bad(rule, value):
            shut = True
            last_bad = minute
        elif is_fine(rule, value) and (last_bad is None or minute - last_bad >= rule.hold):
            shut = False
    return shut


def is_stale(sensor, readings, minute):
    if len(readings) == 0:
        return True
    return sensor.stale != 0 and readings[-1][0] + sensor.stale < minute
