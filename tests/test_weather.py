"""pass and reading, and what readings make of rules and sensors, as run shows it."""

import itertools
import unittest

from tests.helper import PRINT, ask, last, leave, may_run, passed, reading, run, tell, wait

ABOVE = "sensor w stale 0\nride r staff 0\nrule r w above 50 below 40 hold 10\n"
BELOW = "sensor w stale 0\nride r staff 0\nrule r w below 40 above 50 hold 10\n"
CALM = "sensor w stale 0\nsensor v stale 0\nride r staff 0\n"


def stale_park(minutes):
    return f"sensor w stale {minutes}\nride r staff 0\nrule r w above 50 below 40 hold 0\n"


class PassTest(unittest.TestCase):
    def test_answers_the_minute(self):
        self.assertEqual(ask(tell(""), wait(1), wait(100000), wait(5))[1:], [[0, 1], [0, 100001], [0, 100006]])

    def test_the_greatest_minute(self):
        calls = [tell("")] + passed(999999)
        self.assertEqual(ask(*calls, wait(2), wait(100000), wait(1), wait(1), wait(100000))[-5:],
                         [[-8], [-8], [0, 1000000], [-8], [-8]])

    def test_out_of_range(self):
        for minutes in (0, -1, 100001, 10 ** 18, -10 ** 18):
            self.assertEqual(ask(tell(""), wait(minutes), wait(1))[1:], [[-1], [0, 1]], minutes)

    def test_no_park(self):
        self.assertEqual(ask(wait(5), wait(0), tell(""), wait(1)), [[-2], [-1], [0, 0, 0, 0, 0], [0, 1]])

    def test_writes_no_entry(self):
        self.assertEqual(last(tell(CALM), wait(5), wait(5), run()), [0, 1])


class ReadingTest(unittest.TestCase):
    def test_answers_the_entry(self):
        self.assertEqual(ask(tell(CALM), reading(1, 0, 0), reading(2, 0, 1000), reading(1, 0, 0))[1:],
                         [[0, 1], [0, 2], [0, 3]])

    def test_no_such_sensor(self):
        self.assertEqual(last(tell(CALM), reading(3, 0, 5)), [-6])
        self.assertEqual(last(tell(CALM), reading(6, 0, 5)), [-6])
        self.assertEqual(last(tell(""), reading(1, 0, 5)), [-6])

    def test_the_minute_to_come(self):
        self.assertEqual(last(tell(CALM), reading(1, 1, 5)), [-8])
        self.assertEqual(last(tell(CALM), wait(7), reading(1, 7, 5)), [0, 1])
        self.assertEqual(last(tell(CALM), wait(7), reading(1, 8, 5)), [-8])
        self.assertEqual(last(tell(CALM), wait(7), reading(1, 0, 5)), [0, 1])
        self.assertEqual(last(tell(CALM), *passed(1000000), reading(1, 1000000, 5)), [0, 1])
        self.assertEqual(last(tell(CALM), *passed(999999), reading(1, 1000000, 5)), [-8])

    def test_refusals_in_their_order(self):
        self.assertEqual(last(tell(CALM), reading(3, 1, 5)), [-6])
        self.assertEqual(last(tell(CALM), reading(3, 1, 1001)), [-1])
        self.assertEqual(last(reading(1, 0, 5)), [-2])
        self.assertEqual(last(reading(1, 0, -1)), [-1])
        full = [reading(1, 0, 5)] * 250
        self.assertEqual(ask(tell(CALM), *full, reading(3, 1, 5), reading(1, 1, 5), reading(1, 0, 5))[-4:],
                         [[0, 250], [-6], [-8], [-4]])

    def test_a_refused_one_is_not_taken(self):
        self.assertTrue(may_run(tell(ABOVE), reading(1, 0, 30)))
        for bad in (reading(2, 0, 60), reading(1, 6, 60), reading(1, 0, 1001)):
            found = ask(tell(ABOVE), reading(1, 0, 30), bad, wait(50), run())
            self.assertEqual(found[3:], [[0, 50], [0, 2]], bad)


class RuleTest(unittest.TestCase):
    def told(self, text, *pairs):
        """Whether the ride may run at minute 2000 behind readings of these minutes and values."""
        return may_run(tell(text), wait(2000), *[reading(1, minute, value) for minute, value in pairs])

    def test_begins_shut(self):
        self.assertFalse(self.told(ABOVE))
        self.assertFalse(self.told(ABOVE, (0, 45)))
        self.assertFalse(self.told(BELOW, (0, 45)))

    def test_levels_above(self):
        for value, runs in [(0, True), (39, True), (40, True), (41, False), (49, False), (50, False), (1000, False)]:
            self.assertEqual(self.told(ABOVE, (5, value)), runs, value)

    def test_levels_below(self):
        for value, runs in [(0, False), (40, False), (41, False), (49, False), (50, True), (51, True), (1000, True)]:
            self.assertEqual(self.told(BELOW, (5, value)), runs, value)

    def test_between_the_levels_it_stays(self):
        self.assertTrue(self.told(ABOVE, (0, 40), (1, 49)))
        self.assertFalse(self.told(ABOVE, (0, 40), (1, 50)))
        self.assertFalse(self.told(ABOVE, (0, 50), (100, 41)))
        self.assertTrue(self.told(BELOW, (0, 50), (1, 41)))
        self.assertFalse(self.told(BELOW, (0, 50), (1, 40)))
        self.assertFalse(self.told(BELOW, (0, 40), (100, 49)))

    def test_hold(self):
        for minute, runs in [(20, False), (29, False), (30, True), (31, True)]:
            self.assertEqual(self.told(ABOVE, (20, 50), (minute, 40)), runs, minute)
            self.assertEqual(self.told(BELOW, (20, 40), (minute, 50)), runs, minute)

    def test_hold_is_from_the_last_bad_one(self):
        self.assertFalse(self.told(ABOVE, (20, 50), (25, 60), (34, 40)))
        self.assertTrue(self.told(ABOVE, (20, 50), (25, 60), (35, 40)))
        self.assertFalse(self.told(ABOVE, (20, 50), (29, 40), (29, 0)))
        self.assertTrue(self.told(ABOVE, (20, 50), (29, 40), (30, 40)))

    def test_a_fine_one_too_soon_is_no_bad_one(self):
        self.assertTrue(self.told(ABOVE, (20, 50), (25, 40), (30, 40)))

    def test_opens_at_once_without_a_bad_one(self):
        self.assertTrue(self.told(ABOVE, (0, 40)))
        self.assertTrue(self.told(ABOVE, (0, 45), (0, 40)))

    def test_it_opens_at_a_reading_alone(self):
        self.assertFalse(self.told(ABOVE, (20, 50), (29, 40), (1999, 45)))

    def test_hold_of_0(self):
        text = ABOVE.replace("hold 10", "hold 0")
        self.assertTrue(self.told(text, (5, 50), (5, 40)))
        self.assertFalse(self.told(text, (5, 40), (5, 50)))

    def test_the_greatest_hold(self):
        text = ABOVE.replace("hold 10", "hold 1440")
        self.assertFalse(self.told(text, (5, 50), (1444, 40)))
        self.assertTrue(self.told(text, (5, 50), (1445, 40)))

    def test_one_level_for_both(self):
        for text in ("rule r w above 50 below 50 hold 0\n", "rule r w below 50 above 50 hold 0\n"):
            self.assertFalse(self.told("sensor w stale 0\nride r staff 0\n" + text, (5, 50)))
        self.assertTrue(self.told("sensor w stale 0\nride r staff 0\nrule r w above 50 below 50 hold 0\n", (5, 49)))
        self.assertTrue(self.told("sensor w stale 0\nride r staff 0\nrule r w below 50 above 50 hold 0\n", (5, 51)))

    def test_told_late(self):
        self.assertFalse(self.told(ABOVE, (30, 40), (25, 50)))
        self.assertTrue(self.told(ABOVE, (35, 40), (25, 50)))
        self.assertTrue(self.told(ABOVE, (35, 40), (40, 45), (25, 50)))
        self.assertFalse(self.told(ABOVE, (20, 40), (25, 50)))

    def test_several_of_one_minute_as_they_were_written(self):
        text = ABOVE.replace("hold 10", "hold 0")
        self.assertTrue(self.told(text, (9, 40), (5, 50), (5, 40)))
        self.assertFalse(self.told(text, (9, 45), (5, 40), (5, 50)))
        self.assertTrue(self.told(text, (9, 45), (5, 50), (5, 40)))
        self.assertTrue(self.told(text, (5, 50), (9, 45), (5, 40)))
        self.assertFalse(self.told(text, (5, 1000), (5, 0), (5, 50)))

    def test_in_any_order_the_same(self):
        pairs = [(10, 50), (15, 40), (21, 45), (30, 39), (33, 48)]
        for text in (ABOVE, BELOW):
            found = {self.told(text, *turned) for turned in itertools.permutations(pairs)}
            self.assertEqual(len(found), 1)

    def test_each_sensor_for_itself(self):
        text = ("sensor w stale 0\nsensor v stale 0\nride r staff 0\nride q staff 0\n"
                "rule r w above 50 below 40 hold 0\nrule q v above 50 below 40 hold 0\n")
        self.assertEqual(ask(tell(text), reading(2, 0, 30), run(1), run(2))[2:], [[-9], [0, 2]])

    def test_all_rules_of_the_ride(self):
        text = ("sensor w stale 0\nsensor v stale 0\nride r staff 0\n"
                "rule r w above 50 below 40 hold 0\nrule r v below 10 above 20 hold 0\n")
        self.assertFalse(may_run(tell(text), reading(1, 0, 30)))
        self.assertFalse(may_run(tell(text), reading(2, 0, 30)))
        self.assertTrue(may_run(tell(text), reading(1, 0, 30), reading(2, 0, 30)))

    def test_the_rules_of_other_rides_do_not_count(self):
        text = "sensor w stale 0\nride r staff 0\nride q staff 0\nrule q w above 50 below 40 hold 0\n"
        self.assertEqual(ask(tell(text), run(1), run(2))[1:], [[0, 1], [-9]])


class StaleTest(unittest.TestCase):
    def after(self, stale, minutes):
        return may_run(tell(stale_park(stale)), wait(3), reading(1, 3, 0), *passed(minutes))

    def test_edges(self):
        self.assertTrue(self.after(30, 30))
        self.assertFalse(self.after(30, 31))
        self.assertTrue(self.after(1, 1))
        self.assertFalse(self.after(1, 2))
        self.assertTrue(self.after(1440, 1440))
        self.assertFalse(self.after(1440, 1441))

    def test_stale_0_is_never(self):
        self.assertTrue(self.after(0, 1))
        self.assertTrue(self.after(0, 999997))

    def test_by_the_last_minute_not_the_last_written(self):
        calls = [tell(stale_park(30)), wait(50), reading(1, 50, 0), reading(1, 10, 0)]
        self.assertTrue(may_run(*calls, wait(30)))
        self.assertFalse(may_run(*calls, wait(31)))

    def test_told_late_it_is_stale_by_its_minute(self):
        self.assertFalse(may_run(tell(stale_park(30)), wait(50), reading(1, 19, 0)))
        self.assertTrue(may_run(tell(stale_park(30)), wait(50), reading(1, 20, 0)))

    def test_a_new_reading_ends_it(self):
        self.assertTrue(may_run(tell(stale_park(30)), reading(1, 0, 0), wait(99), reading(1, 99, 45)))

    def test_a_sensor_without_a_rule_stops_nothing(self):
        self.assertTrue(may_run(tell("sensor w stale 1\nride r staff 0\n"), wait(99)))

    def test_other_calls_still_answer(self):
        self.assertEqual(ask(tell(stale_park(1)), leave(3), wait(9), run(), PRINT)[3], [-9])


if __name__ == "__main__":
    unittest.main()
