"""why, whythen, rule, due, locks, orders, openrides and state."""

import itertools
import unittest

from tests.helper import (STATE, ask, checked, come, due, finish, force, last, leave, lock, locks, open_rides, order,
                          orders, passed, reading, rule, run, staff, tell, unlock, wait, why, why_then)

TEXT = ("sensor w stale 30\nsensor v stale 0\nride r staff 3\nride q staff 0\n"
        "rule q w above 50 below 40 hold 0\nrule r w above 50 below 40 hold 10\nrule r v below 10 above 20 hold 0\n"
        "check q c days 1\ncheck r c days 2\ncheck r d rounds 9\n")
RULES = ("sensor w stale 0\nsensor v stale 0\nride r staff 0\nrule r w above 50 below 40 hold 10\n"
         "rule r w below 10 above 20 hold 0\nrule r v above 50 below 40 hold 0\n")
TWO = "ride r staff 0\nride q staff 0\n"

# Ride 1 of TEXT may run behind these.
READY = [tell(TEXT), reading(1, 0, 30), reading(2, 0, 30), checked(2), checked(3), staff(1, 3)]


def refused(case, call, greatest, no_such, refusal):
    """The call refuses what isn't there in the order of the document, and nothing has changed."""
    case.assertEqual(last(call(1)), [-2])
    case.assertEqual(last(call(0)), [-1])
    case.assertEqual(last(call(greatest + 1)), [-1])
    case.assertEqual(last(tell(TEXT), call(0)), [-1])
    case.assertEqual(last(tell(TEXT), call(greatest + 1)), [-1])
    case.assertEqual(last(tell(TEXT), call(greatest)), [refusal])
    case.assertEqual(last(tell(""), call(1)), [refusal])
    case.assertEqual(ask(tell(TEXT), order(1), call(no_such), STATE, order(1))[2:],
                     [[refusal], [0, 0, 1, 1], [0, 2, 2]])
    case.assertEqual(last(tell(TEXT), call(no_such - 1))[0], 0)


class WhyTest(unittest.TestCase):
    def test_all_reasons_in_their_order(self):
        self.assertEqual(last(tell(TEXT), staff(1, 1), order(2), order(1), lock(1, 7), order(1), lock(1, 4), why(1)),
                         [0, 11, 1, 2, 1, 3, 2, 2, 2, 3, 3, 2, 3, 3, 4, 7, 4, 4, 5, 2, 5, 3, 6, 2])

    def test_none(self):
        self.assertEqual(last(*READY, why(1)), [0, 0])
        self.assertEqual(last(tell(TWO), why(2)), [0, 0])

    def test_each_ride_for_itself(self):
        self.assertEqual(last(*READY, why(2)), [0, 1, 3, 1])
        self.assertEqual(last(*READY, lock(1, 1), order(1), staff(1, 0), why(2)), [0, 1, 3, 1])

    def test_each_reason_alone(self):
        self.assertEqual(last(*READY, wait(31), why(1)), [0, 1, 1, 2])
        self.assertEqual(last(*READY, reading(2, 0, 10), why(1)), [0, 1, 2, 3])
        self.assertEqual(last(*READY, run(1, 9), why(1)), [0, 1, 3, 3])
        self.assertEqual(last(*READY, lock(1, 40), why(1)), [0, 1, 4, 40])
        self.assertEqual(last(*READY, order(2), order(1), why(1)), [0, 1, 5, 2])
        self.assertEqual(last(*READY, staff(1, 2), why(1)), [0, 1, 6, 1])
        self.assertEqual(last(*READY, staff(1, 0), why(1)), [0, 1, 6, 3])

    def test_stale_and_shut_of_one_rule(self):
        self.assertEqual(last(*READY, reading(1, 0, 50), wait(31), why(1)), [0, 2, 1, 2, 2, 2])

    def test_it_is_told_of_now(self):
        self.assertEqual(ask(*READY, why(1), wait(30), why(1), wait(1), why(1))[6::2], [[0, 0], [0, 0], [0, 1, 1, 2]])
        self.assertEqual(last(*READY, wait(2879), reading(1, 2879, 30), why(1)), [0, 0])
        self.assertEqual(last(*READY, wait(2880), reading(1, 2880, 30), why(1)), [0, 1, 3, 2])

    def test_as_run_has_it(self):
        for calls in ([], [lock(1, 3)], [wait(31)], [run(1, 9)], [order(1)], [staff(1, 2)], [reading(1, 0, 50)]):
            found = ask(*READY, *calls, why(1), run(1))
            self.assertEqual(found[-1] == [-9], found[-2] != [0, 0], calls)

    def test_refusals(self):
        refused(self, why, 10, 3, -5)


class WhyThenTest(unittest.TestCase):
    def test_by_the_first_so_many_entries(self):
        calls = [tell(TEXT), lock(1, 7), order(1), reading(1, 0, 30), reading(2, 0, 30), checked(2), checked(3),
                 staff(1, 2), staff(1, 3), finish(1, 7), unlock(1, 7), lock(1, 8)]
        first = [[0, 7, 1, 2, 1, 3, 2, 2, 2, 3, 3, 2, 3, 3, 6, 3],
                 [0, 8, 1, 2, 1, 3, 2, 2, 2, 3, 3, 2, 3, 3, 4, 7, 6, 3],
                 [0, 9, 1, 2, 1, 3, 2, 2, 2, 3, 3, 2, 3, 3, 4, 7, 5, 1, 6, 3],
                 [0, 7, 1, 3, 2, 3, 3, 2, 3, 3, 4, 7, 5, 1, 6, 3],
                 [0, 5, 3, 2, 3, 3, 4, 7, 5, 1, 6, 3],
                 [0, 4, 3, 3, 4, 7, 5, 1, 6, 3],
                 [0, 3, 4, 7, 5, 1, 6, 3],
                 [0, 3, 4, 7, 5, 1, 6, 1],
                 [0, 2, 4, 7, 5, 1],
                 [0, 1, 4, 7],
                 [0, 0],
                 [0, 1, 4, 8]]
        asked = [why_then(1, 0, many) for many in range(len(first))]
        self.assertEqual(ask(*calls, *asked)[len(calls):], first)

    def test_all_if_there_are_fewer(self):
        self.assertEqual(ask(*READY, why_then(1, 0, 5), why_then(1, 0, 6), why_then(1, 0, 250))[-3:], [[0, 0]] * 3)
        self.assertEqual(last(tell(TWO), why_then(1, 0, 250)), [0, 0])
        self.assertEqual(last(tell(TEXT), why_then(2, 0, 0)), last(tell(TEXT), why_then(2, 0, 250)))

    def test_250_entries(self):
        calls = [tell(TWO)] + [staff(1, 1)] * 249 + [lock(1, 5)]
        self.assertEqual(ask(*calls, why_then(1, 0, 249), why_then(1, 0, 250))[-2:], [[0, 0], [0, 1, 4, 5]])

    def test_readings_for_that_minute_or_before(self):
        calls = [*READY, wait(50), reading(1, 20, 60), reading(1, 40, 30)]
        found = [(0, [0, 0]), (19, [0, 0]), (20, [0, 1, 2, 2]), (39, [0, 1, 2, 2]), (40, [0, 0]), (70, [0, 0]),
                 (71, [0, 1, 1, 2]), (1000000, [0, 2, 1, 2, 3, 2])]
        for minute, answer in found:
            self.assertEqual(last(*calls, why_then(1, minute, 250)), answer, minute)

    def test_before_any_reading(self):
        calls = [tell(TEXT), wait(9), reading(1, 5, 30), reading(2, 5, 30), checked(2), checked(3), staff(1, 3)]
        self.assertEqual(last(*calls, why_then(1, 4, 250)), [0, 4, 1, 2, 1, 3, 2, 2, 2, 3])
        self.assertEqual(last(*calls, why_then(1, 5, 250)), [0, 0])

    def test_a_late_reading_counts_only_once_it_is_known(self):
        calls = [*READY, wait(20), reading(1, 20, 30), reading(1, 10, 50)]
        self.assertEqual(ask(*calls, why_then(1, 15, 6), why_then(1, 15, 7), why_then(1, 20, 7))[-3:],
                         [[0, 0], [0, 1, 2, 2], [0, 0]])

    def test_of_other_entries_all_count_at_any_minute(self):
        calls = [*READY, wait(20), reading(1, 20, 30), lock(1, 9), order(1), staff(1, 1)]
        for minute in (0, 19, 20, 21):
            self.assertEqual(last(*calls, why_then(1, minute, 250)), [0, 3, 4, 9, 5, 1, 6, 2], minute)

    def test_checks_at_that_minute(self):
        calls = [tell("ride r staff 0\ncheck r c days 2\ncheck r d rounds 3\n"), wait(5000), checked(1), checked(2)]
        # Day 3 is that of minute 5000.
        for minute, answer in [(0, [0, 0]), (5000, [0, 0]), (7199, [0, 0]), (7200, [0, 1, 3, 1])]:
            self.assertEqual(last(*calls, why_then(1, minute, 250)), answer, minute)
        self.assertEqual(last(*calls, why_then(1, 5000, 1)), [0, 1, 3, 2])
        self.assertEqual(last(*calls, run(1, 3), why_then(1, 0, 250)), [0, 1, 3, 2])
        self.assertEqual(last(*calls, run(1, 3), why_then(1, 0, 2)), [0, 0])

    def test_told_alike_for_ever(self):
        early = [*READY, wait(10), lock(1, 3), order(1)]
        late = [finish(1, 3), unlock(1, 3), leave(3), staff(1, 0), reading(1, 5, 60), reading(2, 0, 0), checked(2),
                lock(1, 4), wait(5000), order(1)]
        asked = [why_then(1, minute, first) for minute in (0, 5, 10, 2000) for first in range(8)]
        before = ask(*early, *asked)[len(early):]
        for many in range(len(late) + 1):
            behind = [*early, *late[:many]]
            self.assertEqual(ask(*behind, *asked)[len(behind):], before)

    def test_as_why_told_it_then(self):
        calls = [tell(TEXT), reading(1, 0, 30), wait(3), lock(2, 5), wait(31), reading(1, 34, 70), reading(2, 30, 30),
                 checked(2), checked(3), staff(1, 3), wait(10), reading(1, 44, 30), run(1, 9), order(1)]
        asked = []
        for many in range(1, len(calls) + 1):
            found = ask(*calls[:many], STATE, why(1))
            asked.append((why_then(1, found[-2][1], found[-2][2]), found[-1]))
        self.assertEqual(ask(*calls, *[call for call, told in asked])[len(calls):], [told for call, told in asked])

    def test_refusals(self):
        refused(self, lambda ride: why_then(ride, 0, 0), 10, 3, -5)
        self.assertEqual(ask(tell(TEXT), why_then(3, -1, 0), why_then(3, 1000001, 0), why_then(3, 0, -1),
                             why_then(3, 0, 251), why_then(3, 1000000, 250))[1:], [[-1]] * 4 + [[-5]])


class RuleCallTest(unittest.TestCase):
    def told(self, pairs, number=1, minute=1000, first=250):
        return last(tell(RULES), wait(1000), *[reading(1, *pair) for pair in pairs], rule(number, minute, first))

    def test_no_reading(self):
        self.assertEqual(self.told([]), [0, 1, -1, 0, -1])
        self.assertEqual(self.told([], first=0), [0, 1, -1, 0, -1])
        self.assertEqual(last(tell(RULES), rule(1, 0, 0)), [0, 1, -1, 0, -1])

    def test_no_bad_one(self):
        self.assertEqual(self.told([(0, 40)]), [0, 0, -1, 1, 0])
        self.assertEqual(self.told([(7, 40), (9, 49)]), [0, 0, -1, 2, 9])
        self.assertEqual(self.told([(7, 41), (9, 49)]), [0, 1, -1, 2, 9])

    def test_a_bad_one(self):
        self.assertEqual(self.told([(0, 50)]), [0, 1, 0, 1, 0])
        self.assertEqual(self.told([(5, 40), (8, 50)]), [0, 1, 8, 2, 8])
        self.assertEqual(self.told([(8, 50), (17, 40)]), [0, 1, 8, 2, 17])
        self.assertEqual(self.told([(8, 50), (18, 40)]), [0, 0, 8, 2, 18])
        self.assertEqual(self.told([(8, 50), (18, 40), (20, 45)]), [0, 0, 8, 3, 20])
        self.assertEqual(self.told([(8, 50), (12, 60), (13, 45)]), [0, 1, 12, 3, 13])

    def test_below(self):
        self.assertEqual(self.told([(8, 10)], 2), [0, 1, 8, 1, 8])
        self.assertEqual(self.told([(8, 11)], 2), [0, 1, -1, 1, 8])
        self.assertEqual(self.told([(8, 19)], 2), [0, 1, -1, 1, 8])
        self.assertEqual(self.told([(8, 10), (8, 20)], 2), [0, 0, 8, 2, 8])

    def test_at_minutes_before_at_and_behind_those_of_readings(self):
        pairs = [(10, 40), (20, 50), (30, 40)]
        for minute, answer in [(0, [1, -1, 0, -1]), (9, [1, -1, 0, -1]), (10, [0, -1, 1, 10]), (11, [0, -1, 1, 10]),
                               (19, [0, -1, 1, 10]), (20, [1, 20, 2, 20]), (29, [1, 20, 2, 20]), (30, [0, 20, 3, 30]),
                               (31, [0, 20, 3, 30]), (1000000, [0, 20, 3, 30])]:
            self.assertEqual(self.told(pairs, minute=minute), [0] + answer, minute)

    def test_by_the_first_so_many_entries(self):
        pairs = [(30, 40), (25, 50), (10, 60), (35, 40)]
        for first, answer in [(0, [1, -1, 0, -1]), (1, [0, -1, 1, 30]), (2, [1, 25, 2, 30]), (3, [1, 25, 3, 30]),
                              (4, [0, 25, 4, 35]), (5, [0, 25, 4, 35]), (250, [0, 25, 4, 35])]:
            self.assertEqual(self.told(pairs, first=first), [0] + answer, first)

    def test_entries_that_are_no_readings_count_among_the_first(self):
        calls = [tell(RULES), lock(1, 3), reading(2, 0, 60), reading(1, 0, 60), order(1)]
        self.assertEqual(ask(*calls, rule(1, 0, 2), rule(1, 0, 3), rule(3, 0, 1), rule(3, 0, 2))[-4:],
                         [[0, 1, -1, 0, -1], [0, 1, 0, 1, 0], [0, 1, -1, 0, -1], [0, 1, 0, 1, 0]])

    def test_minute_and_first_together(self):
        self.assertEqual(self.told([(30, 40), (25, 50), (10, 40)], minute=29, first=2), [0, 1, 25, 1, 25])
        self.assertEqual(self.told([(30, 40), (25, 50), (10, 40)], minute=24, first=2), [0, 1, -1, 0, -1])
        self.assertEqual(self.told([(30, 40), (25, 50), (10, 40)], minute=24, first=3), [0, 0, -1, 1, 10])

    def test_a_late_reading(self):
        self.assertEqual(self.told([(30, 40), (20, 55)]), [0, 0, 20, 2, 30])
        self.assertEqual(self.told([(30, 40), (21, 55)]), [0, 1, 21, 2, 30])
        self.assertEqual(self.told([(20, 55), (30, 40), (10, 55)]), [0, 0, 20, 3, 30])

    def test_several_of_one_minute_as_they_were_written(self):
        self.assertEqual(self.told([(5, 10), (5, 20)], 2), [0, 0, 5, 2, 5])
        self.assertEqual(self.told([(5, 20), (5, 10)], 2), [0, 1, 5, 2, 5])
        self.assertEqual(self.told([(9, 15), (5, 20), (5, 10)], 2), [0, 1, 5, 3, 9])
        self.assertEqual(self.told([(9, 15), (5, 10), (5, 20)], 2), [0, 0, 5, 3, 9])

    def test_readings_in_any_order_tell_the_same(self):
        pairs = [(10, 50), (15, 40), (21, 5), (30, 39), (33, 48)]
        for number, minute in itertools.product((1, 2), (9, 15, 21, 32, 33)):
            found = [self.told(turned, number, minute) for turned in itertools.permutations(pairs)]
            self.assertEqual(found, found[:1] * len(found))

    def test_staleness_is_another_thing(self):
        self.assertEqual(last(tell(TEXT), reading(1, 0, 30), wait(9000), rule(2, 9000)), [0, 0, -1, 1, 0])

    def test_refusals(self):
        refused(self, lambda number: rule(number, 0, 0), 20, 4, -17)
        self.assertEqual(ask(tell(TEXT), rule(4, -1, 0), rule(4, 1000001, 0), rule(4, 0, -1), rule(4, 0, 251),
                             rule(4, 1000000, 250))[1:], [[-1]] * 4 + [[-17]])


class DueTest(unittest.TestCase):
    def test_never_made(self):
        self.assertEqual(ask(tell(TEXT), due(1), due(2))[1:], [[0, 2, 1, 0, 3, 0, 0], [0, 1, 1, 0]])

    def test_no_check(self):
        self.assertEqual(last(tell(TWO), due(1)), [0])

    def test_by_days(self):
        text = tell("ride r staff 0\ncheck r c days 2\n")
        for minutes, left in [(0, 2), (1439, 2), (1440, 1), (2879, 1), (2880, 0), (4320, 0), (1000000, 0)]:
            self.assertEqual(last(text, checked(1), *passed(minutes), due()), [0, 1, 1, left], minutes)
        self.assertEqual(last(text, wait(1439), checked(1), wait(1), due()), [0, 1, 1, 1])
        self.assertEqual(last(text, checked(1), wait(1440), checked(1), due()), [0, 1, 1, 2])

    def test_by_rounds(self):
        calls = [tell("ride r staff 0\nride q staff 0\ncheck r c rounds 9\n"), checked(1)]
        self.assertEqual(ask(*calls, due(), run(1, 3), due(), run(2, 7), due(), run(1, 5), due(), run(1), due(),
                             checked(1), due())[2::2],
                         [[0, 1, 0, 9], [0, 1, 0, 6], [0, 1, 0, 6], [0, 1, 0, 1], [0, 1, 0, 0], [0, 1, 0, 9]])

    def test_rounds_do_not_fall_with_days_nor_days_with_rounds(self):
        text = "ride r staff 0\ncheck r c rounds 9\ncheck r d days 9\n"
        self.assertEqual(last(tell(text), checked(1), checked(2), run(1, 4), wait(1440), due()), [0, 1, 0, 5, 2, 1, 8])

    def test_the_greatest(self):
        text = "ride r staff 0\ncheck r c rounds 10000\ncheck r d days 10000\n"
        self.assertEqual(last(tell(text), checked(1), checked(2), due()), [0, 1, 0, 10000, 2, 1, 10000])
        self.assertEqual(last(tell(text), checked(1), checked(2), *passed(1000000), due()),
                         [0, 1, 0, 10000, 2, 1, 10000 - 694])

    def test_rising(self):
        text = ("ride r staff 0\nride q staff 0\n"
                + "".join(f"check {'rq'[at % 2]} {name} days {at + 1}\n" for at, name in enumerate("zyxwv")))
        self.assertEqual(ask(tell(text), checked(5), checked(4), checked(1), due(1), due(2))[-2:],
                         [[0, 1, 1, 1, 3, 1, 0, 5, 1, 5], [0, 2, 1, 0, 4, 1, 4]])

    def test_refusals(self):
        refused(self, due, 10, 3, -5)


class LocksTest(unittest.TestCase):
    def test_in_the_order_in_which_they_were_put_on(self):
        self.assertEqual(ask(tell(TWO), locks(), lock(1, 9), locks(), lock(1, 3), lock(2, 1), lock(1, 40), locks(),
                             locks(2))[1:],
                         [[0, 0], [0, 1], [0, 1, 9], [0, 2], [0, 3], [0, 4], [0, 3, 9, 3, 40], [0, 1, 1]])

    def test_taken_off_and_put_on_again(self):
        calls = [tell(TWO), lock(1, 9), lock(1, 3), lock(1, 5), unlock(1, 9)]
        self.assertEqual(last(*calls, locks()), [0, 2, 3, 5])
        self.assertEqual(last(*calls, lock(1, 9), locks()), [0, 3, 3, 5, 9])
        self.assertEqual(last(*calls, unlock(1, 5), lock(1, 5), locks()), [0, 2, 3, 5])

    def test_forced(self):
        calls = [tell(TWO), lock(1, 9), lock(2, 9), lock(1, 3), leave(9), force(1, 9, 3, 4)]
        self.assertEqual(ask(*calls, locks(1), locks(2), come(9), lock(1, 9), locks(1))[6:],
                         [[0, 1, 3], [0, 1, 9], [0, 6], [0, 7], [0, 2, 3, 9]])

    def test_who_is_gone_still_has_theirs(self):
        self.assertEqual(last(tell(TWO), lock(1, 9), leave(9), locks()), [0, 1, 9])

    def test_all_40(self):
        people = list(range(40, 0, -1))
        self.assertEqual(last(tell(TWO), *[lock(2, who) for who in people], locks(2)), [0, 40] + people)

    def test_refused_ones_are_not_on(self):
        self.assertEqual(last(tell(TWO), leave(4), lock(1, 4), lock(3, 5), lock(1, 6), lock(1, 6), locks()), [0, 1, 6])

    def test_refusals(self):
        refused(self, locks, 10, 3, -5)


class OrdersTest(unittest.TestCase):
    def test_open_ones_of_several_rides(self):
        calls = [tell(TWO), order(2), order(1), order(2), order(1), order(1), lock(1, 3), lock(2, 3)]
        self.assertEqual(ask(*calls, orders(1), orders(2))[-2:], [[0, 3, 2, 4, 5], [0, 2, 1, 3]])
        self.assertEqual(ask(*calls, finish(4, 3), finish(1, 3), orders(1), orders(2))[-2:], [[0, 2, 2, 5], [0, 1, 3]])
        self.assertEqual(ask(*calls, finish(1, 3), finish(3, 3), order(2), orders(1), orders(2))[-3:],
                         [[0, 10, 6], [0, 3, 2, 4, 5], [0, 1, 6]])

    def test_none(self):
        self.assertEqual(ask(tell(TWO), orders(), order(2), orders(), order(1), lock(1, 3), finish(2, 3), orders())[1:],
                         [[0, 0], [0, 1, 1], [0, 0], [0, 2, 2], [0, 3], [0, 4], [0, 0]])

    def test_all_250(self):
        self.assertEqual(last(tell(TWO), *[order(1)] * 250, orders()), [0, 250] + list(range(1, 251)))

    def test_refusals(self):
        refused(self, orders, 10, 3, -5)


class OpenRidesTest(unittest.TestCase):
    def test_none(self):
        self.assertEqual(last(tell(""), open_rides(0)), [0, 0])
        self.assertEqual(last(tell(TEXT), open_rides(0)), [0, 0])

    def test_several(self):
        text = "".join(f"ride {name} staff 0\n" for name in "abcdefghij")
        self.assertEqual(last(tell(text), open_rides(0)), [0, 10] + list(range(1, 11)))
        self.assertEqual(last(tell(text), lock(4, 1), order(10), open_rides(0)), [0, 8, 1, 2, 3, 5, 6, 7, 8, 9])

    def test_at_that_minute(self):
        calls = [*READY, checked(1)]
        for minute, rides in [(0, [1, 2]), (30, [1, 2]), (31, []), (1000000, [])]:
            self.assertEqual(last(*calls, open_rides(minute)), [0, len(rides)] + rides, minute)
        calls = [*READY, wait(1440), checked(1), reading(1, 1440, 30), reading(1, 20, 50)]
        for minute, rides in [(0, [1, 2]), (19, [1, 2]), (20, []), (1439, []), (1440, [1, 2]), (1470, [1, 2]),
                              (1471, [])]:
            self.assertEqual(last(*calls, open_rides(minute)), [0, len(rides)] + rides, minute)

    def test_by_all_entries(self):
        self.assertEqual(last(tell(TWO), wait(50), lock(1, 3), open_rides(0)), [0, 1, 2])
        self.assertEqual(last(tell(TWO), *[staff(2, 1)] * 249, lock(1, 3), open_rides(0)), [0, 1, 2])

    def test_as_whythen_has_it(self):
        calls = [*READY, checked(1), wait(2000), reading(1, 1000, 45), reading(1, 990, 50), reading(1, 1005, 40)]
        for minute in (0, 30, 31, 989, 990, 1000, 1004, 1005, 1035, 1036, 1439, 1440, 2000):
            found = ask(*calls, why_then(1, minute, 250), why_then(2, minute, 250), open_rides(minute))[-3:]
            rides = [ride for ride in (1, 2) if found[ride - 1] == [0, 0]]
            self.assertEqual(found[2], [0, len(rides)] + rides, minute)

    def test_refusals(self):
        self.assertEqual(ask(open_rides(-1), open_rides(1000001), open_rides(0), open_rides(1000000), tell(TWO),
                             open_rides(-1), open_rides(1000001), open_rides(1000000)),
                         [[-1], [-1], [-2], [-2], [0, 0, 2, 0, 0], [-1], [-1], [0, 2, 1, 2]])


class StateTest(unittest.TestCase):
    def test_behind_accepted_calls(self):
        self.assertEqual(ask(tell(TWO), STATE, wait(7), STATE, order(2), STATE, lock(2, 3), order(1), finish(1, 3),
                             STATE, wait(100000), STATE)[1::2],
                         [[0, 0, 0, 0], [0, 7, 0, 0], [0, 7, 1, 1], [0, 3, 2], [0, 7, 4, 2], [0, 100007, 4, 2]])

    def test_behind_refused_calls(self):
        self.assertEqual(last(wait(5), tell("x"), tell(TWO), wait(3), order(1), wait(0), wait(100001), tell(TWO),
                              order(3), order(0), run(1), finish(1, 3), unlock(1, 3), reading(1, 0, 0), come(3),
                              why(3), STATE), [0, 3, 1, 1])

    def test_the_greatest(self):
        self.assertEqual(ask(tell(TWO), *passed(1000000), *[order(1)] * 250, STATE, wait(1), order(1), STATE)[-4:],
                         [[0, 1000000, 250, 250], [-8], [-4], [0, 1000000, 250, 250]])

    def test_no_park(self):
        self.assertEqual(ask(STATE, tell("x\n"), STATE, tell(""), STATE),
                         [[-2], [-13], [-2], [0, 0, 0, 0, 0], [0, 0, 0, 0]])


if __name__ == "__main__":
    unittest.main()
