"""The ranges of the calls' numbers, and the form in which calls are handed in and answered."""

import contextlib
import io
import unittest

from ridespark.calls import UnknownCall
from ridespark.park import answers
from tests.helper import (PRINT, STATE, ask, check, checked, crew, due, entry, finish, force, joined, last, leave,
                          lock, locks, open_rides, order, orders, reading, rule, run, staff, tell, unlock, wait, why,
                          why_then)

FULL_PARK = ("".join(f"sensor {name} stale 0\n" for name in "abcdef")
             + "".join(f"ride {name} staff 0\n" for name in "abcdefghij")
             + "".join(f"check a {name} days 1\n" for name in "abcdefghijklmnopqrst"))

# Of each call a sound one, and the least and the greatest of each of its numbers.
SOUND = [
    ([3, 1], [(1, 100000)]),
    ([4, 1, 0, 0], [(1, 6), (0, 1000000), (0, 1000)]),
    ([5, 2, 1], [(1, 10), (1, 1000)]),
    ([6, 1, 1], [(1, 20), (1, 40)]),
    ([7, 1, 1], [(1, 10), (1, 40)]),
    ([8, 1, 1], [(1, 10), (1, 40)]),
    ([9, 1, 1, 2, 3], [(1, 10), (1, 40), (1, 40), (1, 40)]),
    ([10, 1], [(1, 10)]),
    ([11, 1, 1], [(1, 250), (1, 40)]),
    ([12, 1, 0], [(1, 10), (0, 20)]),
    ([13, 1, 1], [(1, 40), (0, 1)]),
    ([14, 1], [(1, 10)]),
    ([15, 1, 0, 0], [(1, 10), (0, 1000000), (0, 250)]),
    ([16, 1, 0, 0], [(1, 20), (0, 1000000), (0, 250)]),
    ([17, 1], [(1, 10)]),
    ([18, 1], [(1, 10)]),
    ([19, 1], [(1, 10)]),
    ([20, 0], [(0, 1000000)]),
    ([22, 1], [(1, 250)]),
]

# Of each call 14 to 23 some that are accepted and some that are refused, where MIXED tells a park.
QUESTIONS = [why(1), why(2), why(0), why_then(1, 0, 0), why_then(1, 5, 250), why_then(2, 0, 0), why_then(1, -1, 0),
             rule(1, 0, 0), rule(21, 0, 0), due(1), due(2), due(0), locks(1), locks(2), locks(0), orders(1), orders(2),
             orders(0), open_rides(0), open_rides(-1), crew([1], [5, 0]), crew([0], [5, 0]), crew([], []), entry(1),
             entry(250), entry(0), STATE]

MIXED = [PRINT, check("x"), tell("x\n"), tell("ride r staff 0\ncheck r c rounds 5\n"), run(), checked(1, 3), run(1, 6),
         run(1, 5), lock(1, 3), order(1), finish(1, 4), finish(1, 3), wait(9), wait(0), leave(3), force(1, 3, 4, 5),
         reading(1, 0, 0), unlock(1, 3), PRINT, check(""), tell("")] + QUESTIONS


class RangeTest(unittest.TestCase):
    def test_just_outside(self):
        for call, ranges in SOUND:
            for place, (least, greatest) in enumerate(ranges, start=1):
                for number in (least - 1, greatest + 1, -10 ** 18, 10 ** 18):
                    wrong = call[:place] + [number] + call[place + 1:]
                    self.assertEqual(ask(wrong, tell(FULL_PARK), wrong, lock(10, 40)),
                                     [[-1], [0, 6, 10, 0, 20], [-1], [0, 1]], wrong)

    def test_least_and_greatest(self):
        for call, ranges in SOUND:
            for place, limits in enumerate(ranges, start=1):
                for number in limits:
                    sound = call[:place] + [number] + call[place + 1:]
                    self.assertEqual(last(sound), [-2], sound)
                    self.assertNotEqual(last(tell(FULL_PARK), sound), [-1], sound)

    def test_the_greatest_are_there(self):
        self.assertEqual(ask(tell(FULL_PARK), wait(100000), reading(6, 100000, 1000), run(10, 1000), checked(20, 40),
                             lock(10, 40), order(10), finish(1, 40), unlock(10, 40))[1:],
                         [[0, 100000], [0, 1], [0, 2], [0, 3], [0, 4], [0, 5, 1], [0, 6], [0, 7]])

    def test_the_greatest_are_told(self):
        text = FULL_PARK + "rule j f above 1000 below 999 hold 0\n" * 20
        self.assertEqual(ask(tell(text), lock(10, 40), order(10), reading(6, 0, 999), staff(10, 20), leave(40),
                             why_then(10, 1000000, 250), rule(20, 1000000, 250), due(10), locks(10), orders(10),
                             open_rides(1000000), why(10))[5:],
                         [[0, 5], [0, 2, 4, 40, 5, 1], [0, 0, -1, 1, 0], [0], [0, 1, 40], [0, 1, 1],
                          [0, 8] + list(range(2, 10)), [0, 2, 4, 40, 5, 1]])

    def test_no_park_writes_nothing(self):
        for call, ranges in SOUND:
            self.assertEqual(ask(call, tell(FULL_PARK), wait(1), lock(10, 40)),
                             [[-2], [0, 6, 10, 0, 20], [0, 1], [0, 1]], call)


class FormTest(unittest.TestCase):
    def test_one_behind_another(self):
        text = [ord(sign) for sign in "ride r staff 0\n"]
        self.assertEqual(answers([2, 0, 15] + text + [3, 5, 10, 1, 7, 3, 1, 1, 0, 5, 1, 1, 2]),
                         [1, -2, 5, 0, 0, 1, 0, 0, 2, 0, 5, 3, 0, 1, 1, 1, -5, 6, 0, 0, 0, 0, 0, 0, 1, -9, 16, 0] + text)

    def test_a_text_may_look_like_calls(self):
        self.assertEqual(answers([1, 3, 3, 5, 2, 2]), [4, 0, 1, 1, 1, 1, -2])

    def test_questions_one_behind_another(self):
        text = [ord(sign) for sign in "ride r staff 2\n"]
        self.assertEqual(answers([23, 0, 15] + text + [14, 1, 15, 1, 0, 0, 16, 1, 0, 0, 17, 1, 18, 1, 19, 1, 20, 0,
                                                       21, 2, 1, 3, 4, 5, 0, 6, 1, 21, 1, 9, 0, 22, 1, 23]),
                         [1, -2, 5, 0, 0, 1, 0, 0, 4, 0, 1, 6, 2, 4, 0, 1, 6, 2, 1, -17, 1, 0, 2, 0, 0, 2, 0, 0,
                          2, 0, 0, 4, 0, 6, 1, 2, 2, 0, 0, 1, -15, 4, 0, 0, 0, 0])

    def test_rows_may_look_like_calls(self):
        self.assertEqual(answers([21, 3, 23, 23, 23, 4, 23, 1, 23, 1, 23]), [4, 0, 23, 1, 2, 1, -2])
        self.assertEqual(answers([21, 4, 23, 23, 23, 23, 3, 23, 23, 23, 23]), [1, -1, 1, -2])

    def test_questions_change_nothing_for_the_calls_behind(self):
        calls = [call for call in MIXED if call not in QUESTIONS]
        alone = ask(*calls)
        for question in QUESTIONS:
            found = ask(*[part for call in calls for part in (question, call)])
            self.assertEqual(found[1::2], alone, question)
        found = ask(*[part for call in calls[:10] for part in (*QUESTIONS, call)])
        self.assertEqual(found[len(QUESTIONS)::len(QUESTIONS) + 1], alone[:10])

    def test_no_such_call(self):
        for number in (-1, 24):
            with self.assertRaises(UnknownCall):
                answers([23, number])

    def test_handed_in_is_not_changed(self):
        calls = joined(MIXED)
        before = list(calls)
        answers(calls)
        self.assertEqual(calls, before)

    def test_what_is_given_back_is_a_new_list_of_whole_numbers(self):
        calls = joined(MIXED)
        told = answers(calls)
        self.assertIs(type(told), list)
        self.assertEqual({type(number) for number in told}, {int})
        self.assertIsNot(told, calls)

    def test_nothing_is_kept(self):
        calls = joined(MIXED)
        first = answers(calls)
        self.assertEqual(answers(calls), first)
        answers(joined([tell(FULL_PARK), wait(9), leave(1)]))
        self.assertEqual(answers(calls), first)
        self.assertEqual(ask(PRINT, tell(""), wait(1)), [[-2], [0, 0, 0, 0, 0], [0, 1]])

    def test_what_was_given_back_may_be_changed(self):
        calls = joined(MIXED)
        first = answers(calls)
        kept = list(first)
        first.clear()
        self.assertEqual(answers(calls), kept)

    def test_nothing_is_printed(self):
        out = io.StringIO()
        with contextlib.redirect_stdout(out), contextlib.redirect_stderr(out):
            answers(joined(MIXED))
        self.assertEqual(out.getvalue(), "")

    def test_300_calls(self):
        self.assertEqual(last(tell(""), *[wait(1)] * 299), [0, 299])

    def test_300_calls_of_all_sorts(self):
        text = FULL_PARK + "rule b a above 50 below 40 hold 5\nrule j f below 5 above 6 hold 0\n"
        calls = [tell(text)]
        while len(calls) < 280:
            at = len(calls)
            ride = at % 10 + 1
            calls += [wait(7), reading(at % 6 + 1, at, at * 7 % 100), lock(ride, at % 40 + 1), order(ride), why(ride),
                      why_then(ride, at, at % 251), rule(at % 2 + 1, at, at % 251), due(ride), locks(ride),
                      orders(ride), open_rides(at), entry(at % 50 + 1)]
        calls = (calls + [crew([31, 3, 1], [9, 0, 8, 1, 7, 2])] * 20)[:299] + [STATE]
        handed = joined(calls)
        kept = list(handed)
        first = answers(handed)
        self.assertEqual(handed, kept)
        self.assertEqual(answers(handed), first)
        found = ask(*calls)
        self.assertEqual(len(found), 300)
        written = [answer for call, answer in zip(calls, found) if 4 <= call[0] <= 13 and answer[0] == 0]
        self.assertEqual([answer[1] for answer in written], list(range(1, len(written) + 1)))
        passes = [call for call in calls if call[0] == 3]
        ordered = [call for call in calls if call[0] == 10]
        self.assertEqual(found[-1], [0, 7 * len(passes), len(written), len(ordered)])


class EntriesTest(unittest.TestCase):
    def test_250_and_one_more(self):
        calls = [tell("ride r staff 0\n")] + [run()] * 250
        found = ask(*calls, run(), lock(1, 1), order(1), wait(3), PRINT, run())
        self.assertEqual(found[1:251], [[0, number] for number in range(1, 251)])
        self.assertEqual(found[251:254] + found[-1:], [[-4]] * 4)
        self.assertEqual(found[254], [0, 3])
        self.assertEqual(len(found[255]), 16)

    def test_250_and_one_more_are_told(self):
        calls = [tell("ride r staff 0\n")] + [lock(1, 1), unlock(1, 1)] * 124 + [order(1), lock(1, 2)]
        told = [STATE, why(1), why_then(1, 0, 249), why_then(1, 0, 248), locks(1), orders(1), open_rides(0), entry(250)]
        wanted = [[0, 0, 250, 1], [0, 2, 4, 2, 5, 1], [0, 1, 5, 1], [0, 0], [0, 1, 2], [0, 1, 1], [0, 0],
                  [0, 0, 3, 1, 2, 0, 0]]
        self.assertEqual(ask(*calls, *told)[251:], wanted)
        for one_more in (lock(1, 3), unlock(1, 2), order(1), finish(1, 2), staff(1, 5), leave(7)):
            self.assertEqual(ask(*calls, one_more, *told)[251:], [[-4]] + wanted, one_more)

    def test_refused_calls_write_none(self):
        self.assertEqual(ask(tell("ride r staff 0\n"), run(2), lock(2, 1), unlock(1, 1), reading(1, 0, 0), checked(1),
                             finish(1, 1), order(2), force(1, 1, 2, 3), run())[-1], [0, 1])


if __name__ == "__main__":
    unittest.main()
