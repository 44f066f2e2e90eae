"""What each accepted call writes down."""

import unittest

from ridespark.calls import split_calls
from ridespark.park import Park, answer_call
from tests.helper import (check, checked, come, finish, force, joined, leave, lock, order, reading, run, staff, tell,
                          unlock, wait)

TEXT = "sensor w stale 0\nsensor v stale 0\nride r staff 0\nride q staff 0\ncheck r c days 9\n"


def written(*calls):
    park = Park()
    for call in split_calls(joined(calls)):
        answer_call(park, call)
    return [(entry.written, entry.kind, entry.about, entry.told, entry.third, entry.fourth) for entry in park.entries]


class EntryTest(unittest.TestCase):
    def test_each_kind(self):
        self.assertEqual(
            written(tell(TEXT), wait(9), reading(2, 4, 700), run(2, 30), checked(1, 5), wait(1), lock(1, 6),
                    unlock(1, 6), lock(1, 7), order(2), order(1), finish(2, 7), leave(7), force(1, 7, 8, 40),
                    staff(2, 20), come(7)),
            [(9, 0, 2, 4, 700, 0), (9, 1, 2, 30, 0, 0), (9, 2, 1, 5, 0, 0), (10, 3, 1, 6, 0, 0), (10, 4, 1, 6, 0, 0),
             (10, 3, 1, 7, 0, 0), (10, 6, 2, 0, 0, 0), (10, 6, 1, 0, 0, 0), (10, 7, 2, 7, 0, 0), (10, 9, 7, 0, 0, 0),
             (10, 5, 1, 7, 8, 40), (10, 8, 2, 20, 0, 0), (10, 10, 7, 0, 0, 0)])

    def test_other_calls_write_none(self):
        self.assertEqual(written(tell(TEXT), tell(TEXT), check(TEXT), [2], wait(4)), [])

    def test_refused_calls_write_none(self):
        self.assertEqual(written(reading(1, 0, 0), tell(TEXT), reading(1, 1, 0), run(3), run(1, 1), checked(2),
                                 lock(3, 1), unlock(1, 1), force(1, 1, 2, 3), order(3), finish(1, 1), staff(3, 1),
                                 come(1)), [])


if __name__ == "__main__":
    unittest.main()
