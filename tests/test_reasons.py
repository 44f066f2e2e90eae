"""Every reason why a ride may not run, by some entries, at some minute."""

import unittest

from ridespark.entries import (CAME, CHECKED, FINISHED, FORCED, LEFT, LOCKED, ORDERED, RAN, READING, STAFFED, UNLOCKED,
                               Entry)
from ridespark.plan import read_plan
from ridespark.reasons import reasons_against
from ridespark.upkeep import check_left, is_gone
from tests.helper import as_bytes

TEXT = ("sensor w stale 30\nsensor v stale 0\nride r staff 3\nride q staff 0\n"
        "rule q w above 50 below 40 hold 0\nrule r w above 50 below 40 hold 0\nrule r v below 10 above 20 hold 0\n"
        "check q c days 1\ncheck r c days 2\ncheck r d rounds 9\n")
PLAN = read_plan(as_bytes(TEXT))


def entry(written, kind, about, told=0, third=0, fourth=0):
    return Entry(written, kind, about, told, third, fourth)


ENTRIES = [
    entry(0, LOCKED, 1, 7),
    entry(0, LOCKED, 1, 4),
    entry(0, ORDERED, 2),
    entry(0, ORDERED, 1),
    entry(0, ORDERED, 1),
    entry(5, READING, 1, 5, 30),
    entry(5, READING, 2, 3, 20),
    entry(6, CHECKED, 2, 4),
    entry(6, CHECKED, 3, 4),
    entry(6, STAFFED, 1, 3),
    entry(7, FINISHED, 2, 4),
    entry(7, FINISHED, 3, 4),
    entry(8, UNLOCKED, 1, 4),
    entry(8, LEFT, 7),
    entry(8, FORCED, 1, 7, 4, 5),
    entry(9, RAN, 1, 9),
]


class ReasonsTest(unittest.TestCase):
    def told(self, first, minute, ride=1):
        return reasons_against(PLAN, ENTRIES[:first], ride, minute)

    def test_all_of_them_in_their_order(self):
        self.assertEqual(self.told(5, 0), [(1, 2), (1, 3), (2, 2), (2, 3), (3, 2), (3, 3), (4, 7), (4, 4), (5, 2), (5, 3),
                                           (6, 3)])

    def test_without_an_entry(self):
        self.assertEqual(self.told(0, 0, 2), [(1, 1), (2, 1), (3, 1)])

    def test_none(self):
        self.assertEqual(self.told(15, 8), [])

    def test_one_less_with_each_entry(self):
        self.assertEqual(self.told(10, 6), [(4, 7), (4, 4), (5, 2), (5, 3)])
        self.assertEqual(self.told(13, 8), [(4, 7)])

    def test_readings_to_come_do_not_count(self):
        self.assertEqual(self.told(15, 5), [])
        self.assertEqual(self.told(15, 4), [(1, 2), (2, 2)])
        self.assertEqual(self.told(15, 2), [(1, 2), (1, 3), (2, 2), (2, 3)])

    def test_stale_and_not_shut(self):
        self.assertEqual(self.told(15, 35), [])
        self.assertEqual(self.told(15, 36), [(1, 2)])

    def test_due_by_days_and_by_rounds(self):
        self.assertEqual(self.told(16, 9), [(3, 3)])
        self.assertEqual(self.told(15, 2879), [(1, 2)])
        self.assertEqual(self.told(15, 2880), [(1, 2), (3, 2)])
        self.assertEqual(self.told(16, 2880), [(1, 2), (3, 2), (3, 3)])

    def test_staff_by_how_many(self):
        for staff, reasons in [(0, [(6, 3)]), (2, [(6, 1)]), (3, []), (4, [])]:
            self.assertEqual(reasons_against(PLAN, ENTRIES[:15] + [entry(9, STAFFED, 1, staff)], 1, 9), reasons)


class LeftTest(unittest.TestCase):
    def test_by_days(self):
        check = PLAN.checks[1]
        self.assertEqual(check_left(check, 2, [], 0), 0)
        for minute, left in [(0, 2), (1439, 2), (1440, 1), (2879, 1), (2880, 0), (4320, 0), (1000000, 0)]:
            self.assertEqual(check_left(check, 2, ENTRIES, minute), left, minute)

    def test_by_rounds(self):
        check = PLAN.checks[2]
        self.assertEqual(check_left(check, 3, ENTRIES[:8], 9), 0)
        self.assertEqual(check_left(check, 3, ENTRIES[:15], 9), 9)
        self.assertEqual(check_left(check, 3, ENTRIES, 9), 0)
        self.assertEqual(check_left(check, 3, ENTRIES[:15] + [entry(9, RAN, 1, 2), entry(9, RAN, 2, 5)], 9), 7)
        self.assertEqual(check_left(check, 3, ENTRIES + [entry(9, RAN, 1, 2)], 9), 0)

    def test_gone(self):
        self.assertFalse(is_gone(ENTRIES[:13], 7))
        self.assertTrue(is_gone(ENTRIES, 7))
        self.assertFalse(is_gone(ENTRIES, 4))
        self.assertFalse(is_gone(ENTRIES + [entry(9, CAME, 7)], 7))


if __name__ == "__main__":
    unittest.main()
