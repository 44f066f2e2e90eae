"""What each accepted call writes down, as entry tells it."""

import unittest

from tests.helper import (PRINT, STATE, ask, check, checked, come, crew, due, entry, finish, force, last, leave, lock,
                          locks, open_rides, order, orders, passed, reading, rule, run, staff, tell, unlock, wait, why,
                          why_then)

TEXT = ("sensor w stale 0\nsensor v stale 0\nride r staff 0\nride q staff 0\n"
        "rule r v above 1000 below 999 hold 0\ncheck r c days 9\n")


def written(*calls):
    """What entry tells of all that is written behind these calls."""
    many = last(*calls, STATE)[2]
    found = ask(*calls, *[entry(number) for number in range(1, many + 2)])[len(calls):]
    if found[-1] != [-15]:
        raise AssertionError(f"there are {many} entries, and one more is {found[-1]}")
    return [answer[1:] if answer[0] == 0 else answer for answer in found[:-1]]


class KindsTest(unittest.TestCase):
    def test_each_kind(self):
        self.assertEqual(
            written(tell(TEXT), wait(9), reading(2, 4, 700), run(2, 30), checked(1, 5), wait(1), lock(1, 6),
                    unlock(1, 6), lock(1, 7), order(2), order(1), finish(2, 7), leave(7), force(1, 7, 8, 40),
                    staff(2, 20), come(7)),
            [[9, 0, 2, 4, 700, 0], [9, 1, 2, 30, 0, 0], [9, 2, 1, 5, 0, 0], [10, 3, 1, 6, 0, 0], [10, 4, 1, 6, 0, 0],
             [10, 3, 1, 7, 0, 0], [10, 6, 2, 0, 0, 0], [10, 6, 1, 0, 0, 0], [10, 7, 2, 7, 0, 0], [10, 9, 7, 0, 0, 0],
             [10, 5, 1, 7, 8, 40], [10, 8, 2, 20, 0, 0], [10, 10, 7, 0, 0, 0]])

    def test_the_minute_of_writing_is_not_that_of_the_reading(self):
        self.assertEqual(ask(tell(TEXT), *passed(1000000), reading(1, 0, 0), reading(1, 1000000, 1000), entry(1),
                             entry(2))[-2:],
                         [[0, 1000000, 0, 1, 0, 0, 0], [0, 1000000, 0, 1, 1000000, 1000, 0]])

    def test_no_staff(self):
        self.assertEqual(last(tell(TEXT), staff(2, 0), entry(1)), [0, 0, 8, 2, 0, 0, 0])

    def test_other_calls_write_none(self):
        self.assertEqual(written(tell(TEXT), tell(TEXT), check(TEXT), PRINT, wait(4), why(), why_then(1, 0, 0),
                                 rule(1, 0), due(), locks(), orders(), open_rides(0), crew([1], [5, 0]), entry(1),
                                 STATE), [])

    def test_refused_calls_write_none(self):
        self.assertEqual(written(reading(1, 0, 0), tell(TEXT), reading(1, 1, 0), run(3), run(1, 1), checked(2),
                                 lock(3, 1), unlock(1, 1), force(1, 1, 2, 3), order(3), finish(1, 1), staff(3, 1),
                                 come(1)), [])


class EntryTest(unittest.TestCase):
    def test_no_such_entry(self):
        self.assertEqual(ask(tell(TEXT), entry(1), order(1), entry(2), entry(250), entry(1))[1:],
                         [[-15], [0, 1, 1], [-15], [-15], [0, 0, 6, 1, 0, 0, 0]])

    def test_refusals_in_their_order(self):
        self.assertEqual(ask(entry(0), entry(251), entry(1), tell(TEXT), entry(0), entry(251), entry(1)),
                         [[-1], [-1], [-2], [0, 2, 2, 1, 1], [-1], [-1], [-15]])

    def test_the_greatest(self):
        calls = [tell(TEXT)] + [run(2, rounds) for rounds in range(1, 251)]
        self.assertEqual(last(*calls, entry(250)), [0, 0, 1, 2, 250, 0, 0])
        self.assertEqual(last(*calls[:-1], entry(250)), [-15])

    def test_told_alike_for_ever(self):
        calls = [tell(TEXT), wait(5), lock(1, 6), entry(1), wait(7), unlock(1, 6), leave(6), lock(1, 7), entry(1)]
        self.assertEqual(ask(*calls)[3], [0, 5, 3, 1, 6, 0, 0])
        self.assertEqual(ask(*calls)[8], [0, 5, 3, 1, 6, 0, 0])

    def test_a_refused_one_changes_nothing(self):
        self.assertEqual(ask(tell(TEXT), entry(1), entry(0), order(2), STATE, entry(2), order(2))[3:],
                         [[0, 1, 1], [0, 0, 1, 1], [-15], [0, 2, 2]])


if __name__ == "__main__":
    unittest.main()
