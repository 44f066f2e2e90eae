"""The ranges of the calls' numbers, and the form in which calls are handed in and answered."""

import contextlib
import io
import unittest

from ridespark.park import answers
from tests.helper import (PRINT, ask, check, checked, finish, force, joined, last, leave, lock, order, reading, run,
                          tell, unlock, wait)

FULL_PARK = ("".join(f"sensor {name} stale 0\n" for name in "abcdef")
             + "".join(f"ride {name} staff 0\n" for name in "abcdefghij")
             + "".join(f"check a {name} days 1\n" for name in "abcdefghijklmnopqrst"))

# Of each call a sound one, and the least and the greatest of each of its numbers.
SOUND = [
    ([3, 1], [(1, 100000)]),
    ([4, 1, 0, 0], [(1, 6), (0, 1000000), (0, 1000)]),
    ([5, 2, 1], [(1, 10), (1, 1000)]),
    ([6, 1, 1], [(1, 20), (1, 40)]),
    ([7, 1, 1], [(1, 10), (1, 40)]),
    ([8, 1, 1], [(1, 10), (1, 40)]),
    ([9, 1, 1, 2, 3], [(1, 10), (1, 40), (1, 40), (1, 40)]),
    ([10, 1], [(1, 10)]),
    ([11, 1, 1], [(1, 250), (1, 40)]),
    ([12, 1, 0], [(1, 10), (0, 20)]),
    ([13, 1, 1], [(1, 40), (0, 1)]),
]

MIXED = [PRINT, check("x"), tell("x\n"), tell("ride r staff 0\ncheck r c rounds 5\n"), run(), checked(1, 3), run(1, 6),
         run(1, 5), lock(1, 3), order(1), finish(1, 4), finish(1, 3), wait(9), wait(0), leave(3), force(1, 3, 4, 5),
         reading(1, 0, 0), unlock(1, 3), PRINT, check(""), tell("")]


class RangeTest(unittest.TestCase):
    def test_just_outside(self):
        for call, ranges in SOUND:
            for place, (least, greatest) in enumerate(ranges, start=1):
                for number in (least - 1, greatest + 1, -10 ** 18, 10 ** 18):
                    wrong = call[:place] + [number] + call[place + 1:]
                    self.assertEqual(ask(wrong, tell(FULL_PARK), wrong, lock(10, 40)),
                                     [[-1], [0, 6, 10, 0, 20], [-1], [0, 1]], wrong)

    def test_least_and_greatest(self):
        for call, ranges in SOUND:
            for place, limits in enumerate(ranges, start=1):
                for number in limits:
                    sound = call[:place] + [number] + call[place + 1:]
                    self.assertEqual(last(sound), [-2], sound)
                    self.assertNotEqual(last(tell(FULL_PARK), sound), [-1], sound)

    def test_the_greatest_are_there(self):
        self.assertEqual(ask(tell(FULL_PARK), wait(100000), reading(6, 100000, 1000), run(10, 1000), checked(20, 40),
                             lock(10, 40), order(10), finish(1, 40), unlock(10, 40))[1:],
                         [[0, 100000], [0, 1], [0, 2], [0, 3], [0, 4], [0, 5, 1], [0, 6], [0, 7]])

    def test_no_park_writes_nothing(self):
        for call, ranges in SOUND:
            self.assertEqual(ask(call, tell(FULL_PARK), wait(1), lock(10, 40)),
                             [[-2], [0, 6, 10, 0, 20], [0, 1], [0, 1]], call)


class FormTest(unittest.TestCase):
    def test_one_behind_another(self):
        text = [ord(sign) for sign in "ride r staff 0\n"]
        self.assertEqual(answers([2, 0, 15] + text + [3, 5, 10, 1, 7, 3, 1, 1, 0, 5, 1, 1, 2]),
                         [1, -2, 5, 0, 0, 1, 0, 0, 2, 0, 5, 3, 0, 1, 1, 1, -5, 6, 0, 0, 0, 0, 0, 0, 1, -9, 16, 0] + text)

    def test_a_text_may_look_like_calls(self):
        self.assertEqual(answers([1, 3, 3, 5, 2, 2]), [4, 0, 1, 1, 1, 1, -2])

    def test_handed_in_is_not_changed(self):
        calls = joined(MIXED)
        before = list(calls)
        answers(calls)
        self.assertEqual(calls, before)

    def test_what_is_given_back_is_a_new_list_of_whole_numbers(self):
        calls = joined(MIXED)
        told = answers(calls)
        self.assertIs(type(told), list)
        self.assertEqual({type(number) for number in told}, {int})
        self.assertIsNot(told, calls)

    def test_nothing_is_kept(self):
        calls = joined(MIXED)
        first = answers(calls)
        self.assertEqual(answers(calls), first)
        answers(joined([tell(FULL_PARK), wait(9), leave(1)]))
        self.assertEqual(answers(calls), first)
        self.assertEqual(ask(PRINT, tell(""), wait(1)), [[-2], [0, 0, 0, 0, 0], [0, 1]])

    def test_what_was_given_back_may_be_changed(self):
        calls = joined(MIXED)
        first = answers(calls)
        kept = list(first)
        first.clear()
        self.assertEqual(answers(calls), kept)

    def test_nothing_is_printed(self):
        out = io.StringIO()
        with contextlib.redirect_stdout(out), contextlib.redirect_stderr(out):
            answers(joined(MIXED))
        self.assertEqual(out.getvalue(), "")

    def test_300_calls(self):
        self.assertEqual(last(tell(""), *[wait(1)] * 299), [0, 299])


class EntriesTest(unittest.TestCase):
    def test_250_and_one_more(self):
        calls = [tell("ride r staff 0\n")] + [run()] * 250
        found = ask(*calls, run(), lock(1, 1), order(1), wait(3), PRINT, run())
        self.assertEqual(found[1:251], [[0, number] for number in range(1, 251)])
        self.assertEqual(found[251:254] + found[-1:], [[-4]] * 4)
        self.assertEqual(found[254], [0, 3])
        self.assertEqual(len(found[255]), 16)

    def test_refused_calls_write_none(self):
        self.assertEqual(ask(tell("ride r staff 0\n"), run(2), lock(2, 1), unlock(1, 1), reading(1, 0, 0), checked(1),
                             finish(1, 1), order(2), force(1, 1, 2, 3), run())[-1], [0, 1])


if __name__ == "__main__":
    unittest.main()
