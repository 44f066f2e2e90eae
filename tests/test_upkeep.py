"""run, checked, lock, unlock, force, order, finish, and what staff and leaves change for them."""

import unittest

from tests.helper import (ask, checked, come, finish, force, last, leave, lock, may_run, order, passed, run, staff,
                          tell, unlock, wait)

TWO = "ride r staff 0\nride q staff 0\n"


def park(*checks):
    return tell("ride r staff 0\nride q staff 0\n" + "".join(f"check r {line}\n" for line in checks))


class RunTest(unittest.TestCase):
    def test_answers_the_entry(self):
        self.assertEqual(ask(tell(TWO), run(1, 1), run(2, 1000), run(1, 5))[1:], [[0, 1], [0, 2], [0, 3]])

    def test_no_such_ride(self):
        self.assertEqual(last(tell(TWO), run(3)), [-5])
        self.assertEqual(last(tell(""), run(1)), [-5])

    def test_refusals_in_their_order(self):
        self.assertEqual(last(run(1)), [-2])
        self.assertEqual(last(run(1, 0)), [-1])
        self.assertEqual(last(tell(TWO), run(3, 1001)), [-1])
        self.assertEqual(last(park("c rounds 5"), run(1, 6)), [-9])
        self.assertEqual(last(park("c rounds 5"), checked(1), lock(1, 1), run(1, 6)), [-9])
        self.assertEqual(last(park("c rounds 5"), checked(1), run(1, 6)), [-10])

    def test_the_250_entries_are_looked_at_last(self):
        full = [checked(1)] * 249
        self.assertEqual(ask(park("c rounds 5"), *full, order(1), run(1, 6))[-2:], [[0, 250, 1], [-9]])
        self.assertEqual(ask(park("c rounds 5"), *full, checked(1), run(1, 6), run(1, 5), run(3, 5))[-4:],
                         [[0, 250], [-10], [-4], [-5]])


class CheckedTest(unittest.TestCase):
    def test_due_until_made(self):
        for line in ("c days 1", "c rounds 1"):
            self.assertFalse(may_run(park(line)))
            self.assertTrue(may_run(park(line), checked(1)))

    def test_answers_the_entry(self):
        self.assertEqual(ask(park("c days 1", "d days 1"), checked(2, 40), checked(1, 1), checked(1, 2))[1:],
                         [[0, 1], [0, 2], [0, 3]])

    def test_each_check_for_itself(self):
        two = park("c days 1", "d rounds 4")
        self.assertFalse(may_run(two, checked(1)))
        self.assertFalse(may_run(two, checked(2)))
        self.assertTrue(may_run(two, checked(2), checked(1)))

    def test_the_checks_of_other_rides_do_not_count(self):
        text = TWO + "check q c days 1\ncheck r c rounds 3\n"
        self.assertEqual(ask(tell(text), checked(2), run(1, 3), run(2), checked(1), run(2), run(1))[2:],
                         [[0, 2], [-9], [0, 3], [0, 4], [-9]])

    def test_by_days_to_the_end_of_a_day(self):
        self.assertTrue(may_run(park("c days 1"), checked(1), wait(1439)))
        self.assertFalse(may_run(park("c days 1"), checked(1), wait(1440)))
        self.assertTrue(may_run(park("c days 1"), wait(1439), checked(1)))
        self.assertFalse(may_run(park("c days 1"), wait(1439), checked(1), wait(1)))
        self.assertTrue(may_run(park("c days 2"), wait(1439), checked(1), wait(1)))
        self.assertTrue(may_run(park("c days 2"), wait(1440), checked(1), wait(2879)))
        self.assertFalse(may_run(park("c days 2"), wait(1440), checked(1), wait(2880)))

    def test_by_days_the_last_time_counts(self):
        self.assertTrue(may_run(park("c days 1"), checked(1), wait(1440), checked(1), wait(1439)))
        self.assertFalse(may_run(park("c days 1"), checked(1), wait(1440), checked(1), wait(1440)))

    def test_by_days_below_0(self):
        self.assertFalse(may_run(park("c days 1"), checked(1), *passed(1000000)))
        self.assertTrue(may_run(park("c days 1"), *passed(1000000), checked(1)))

    def test_the_most_days(self):
        self.assertTrue(may_run(park("c days 694"), checked(1), *passed(999359)))
        self.assertFalse(may_run(park("c days 694"), checked(1), *passed(999360)))
        self.assertTrue(may_run(park("c days 10000"), checked(1), *passed(1000000)))

    def test_days_do_not_count_rounds(self):
        self.assertEqual(last(park("c days 1"), checked(1), run(1, 1000), run(1, 1000)), [0, 3])

    def test_by_rounds(self):
        five = [park("c rounds 5"), checked(1)]
        self.assertEqual(last(*five, run(1, 5)), [0, 2])
        self.assertEqual(last(*five, run(1, 6)), [-10])
        self.assertEqual(ask(*five, run(1, 3), run(1, 3), run(1, 2), run(1, 1))[2:], [[0, 2], [-10], [0, 3], [-9]])
        self.assertEqual(ask(*five, run(1, 4), checked(1), run(1, 5), run(1, 1))[2:], [[0, 2], [0, 3], [0, 4], [-9]])

    def test_by_rounds_any_number_of_days(self):
        self.assertTrue(may_run(park("c rounds 1"), checked(1), *passed(1000000)))

    def test_rounds_run_before_do_not_count(self):
        self.assertEqual(ask(park("c rounds 5", "d rounds 9"), checked(1), checked(2), run(1, 5), checked(1),
                             run(1, 5), run(1, 4), run(1, 1))[3:],
                         [[0, 3], [0, 4], [-10], [0, 5], [-9]])

    def test_rounds_of_another_ride_do_not_count(self):
        self.assertEqual(last(park("c rounds 5"), checked(1), run(2, 900), run(1, 5)), [0, 3])

    def test_the_most_rounds(self):
        calls = [park("c rounds 10000"), checked(1)] + [run(1, 1000)] * 9
        self.assertEqual(ask(*calls, run(1, 999), run(1, 2), run(1, 1), run(1, 1))[-4:],
                         [[0, 11], [-10], [0, 12], [-9]])

    def test_no_such_check(self):
        self.assertEqual(last(park("c days 1"), checked(2)), [-7])
        self.assertEqual(last(park(), checked(1)), [-7])

    def test_gone(self):
        calls = [park("c days 1"), leave(3)]
        self.assertEqual(ask(*calls, checked(1, 3), run(), checked(1, 4), run())[2:], [[-11], [-9], [0, 2], [0, 3]])
        self.assertEqual(last(*calls, come(3), checked(1, 3)), [0, 3])

    def test_refusals_in_their_order(self):
        self.assertEqual(last(checked(1, 1)), [-2])
        self.assertEqual(last(checked(21, 1)), [-1])
        self.assertEqual(last(park("c days 1"), leave(3), checked(2, 3)), [-7])
        self.assertEqual(ask(park("c days 1"), leave(3), *[checked(1)] * 249, checked(2, 3), checked(1, 3),
                             checked(1, 4))[-4:], [[0, 250], [-7], [-11], [-4]])


class LockTest(unittest.TestCase):
    def test_a_lock_stops_its_ride_alone(self):
        self.assertEqual(ask(tell(TWO), lock(1, 3), run(1), run(2))[1:], [[0, 1], [-9], [0, 2]])

    def test_every_lock_must_be_off(self):
        self.assertEqual(ask(tell(TWO), lock(1, 3), lock(1, 4), unlock(1, 3), run(), unlock(1, 4), run())[1:],
                         [[0, 1], [0, 2], [0, 3], [-9], [0, 4], [0, 5]])

    def test_on_already(self):
        self.assertEqual(ask(tell(TWO), lock(1, 3), lock(1, 3), lock(2, 3), unlock(1, 3), lock(1, 3))[1:],
                         [[0, 1], [-12], [0, 2], [0, 3], [0, 4]])

    def test_not_on(self):
        self.assertEqual(ask(tell(TWO), unlock(1, 3), lock(1, 3), unlock(1, 4), unlock(2, 3), unlock(1, 3),
                             unlock(1, 3))[1:], [[-12], [0, 1], [-12], [-12], [0, 2], [-12]])

    def test_no_such_ride(self):
        self.assertEqual(ask(tell(TWO), lock(3, 1), unlock(3, 1))[1:], [[-5], [-5]])

    def test_gone(self):
        self.assertEqual(ask(tell(TWO), lock(1, 3), leave(3), lock(2, 3), unlock(1, 3), run(), come(3), unlock(1, 3),
                             lock(2, 3))[3:], [[-11], [-11], [-9], [0, 3], [0, 4], [0, 5]])

    def test_refusals_in_their_order(self):
        for call in (lock, unlock):
            self.assertEqual(last(call(1, 3)), [-2])
            self.assertEqual(last(call(1, 0)), [-1])
            self.assertEqual(last(tell(TWO), leave(3), call(3, 3)), [-5])
        self.assertEqual(last(tell(TWO), lock(1, 3), leave(3), lock(1, 3)), [-11])
        self.assertEqual(last(tell(TWO), leave(3), unlock(1, 3)), [-11])

    def test_the_250_entries_are_looked_at_last(self):
        full = [tell(TWO), lock(1, 3), leave(4)] + [staff(1, 2)] * 248
        self.assertEqual(ask(*full, lock(3, 4), lock(1, 4), lock(1, 3), lock(2, 3))[-5:],
                         [[0, 250], [-5], [-11], [-12], [-4]])
        self.assertEqual(ask(*full, unlock(3, 4), unlock(1, 4), unlock(2, 3), unlock(1, 3), unlock(1, 3))[-5:],
                         [[-5], [-11], [-12], [-4], [-4]])


class ForceTest(unittest.TestCase):
    def test_takes_the_lock_off(self):
        self.assertEqual(ask(tell(TWO), lock(1, 3), leave(3), run(), force(1, 3, 4, 5), run())[3:],
                         [[-9], [0, 3], [0, 4]])

    def test_takes_off_no_other_lock(self):
        self.assertEqual(ask(tell(TWO), lock(1, 3), lock(2, 3), lock(1, 4), leave(3), force(1, 3, 4, 5), run(1),
                             run(2), unlock(1, 4), run(1), force(2, 3, 4, 5), run(2))[5:],
                         [[0, 5], [-9], [-9], [0, 6], [0, 7], [0, 8], [0, 9]])

    def test_no_such_ride(self):
        self.assertEqual(last(tell(TWO), force(3, 1, 2, 3)), [-5])

    def test_the_first_is_not_gone(self):
        self.assertEqual(ask(tell(TWO), lock(1, 3), force(1, 3, 4, 5), leave(3), come(3), force(1, 3, 4, 5), run())[2:],
                         [[-11], [0, 2], [0, 3], [-11], [-9]])

    def test_not_on(self):
        self.assertEqual(ask(tell(TWO), lock(2, 3), leave(3), force(1, 3, 4, 5), force(2, 3, 4, 5),
                             force(2, 3, 4, 5))[3:], [[-12], [0, 3], [-12]])

    def test_the_two_others(self):
        calls = [tell(TWO), lock(1, 3), leave(3), leave(6)]
        for one, another in [(4, 4), (6, 4), (4, 6), (6, 6), (3, 4), (4, 3), (3, 3)]:
            self.assertEqual(ask(*calls, force(1, 3, one, another), run(), force(1, 3, 5, 4), run())[4:],
                             [[-14], [-9], [0, 4], [0, 5]], (one, another))

    def test_others_who_came_again(self):
        self.assertEqual(last(tell(TWO), lock(1, 3), leave(3), leave(4), come(4), force(1, 3, 4, 5)), [0, 5])

    def test_back_again(self):
        self.assertEqual(ask(tell(TWO), lock(1, 3), leave(3), force(1, 3, 4, 5), come(3), unlock(1, 3), lock(1, 3),
                             run())[4:], [[0, 4], [-12], [0, 5], [-9]])

    def test_refusals_in_their_order(self):
        self.assertEqual(last(force(1, 3, 4, 5)), [-2])
        self.assertEqual(last(force(1, 3, 4, 41)), [-1])
        self.assertEqual(last(tell(TWO), force(3, 3, 4, 4)), [-5])
        self.assertEqual(last(tell(TWO), force(1, 3, 4, 4)), [-11])
        self.assertEqual(last(tell(TWO), leave(3), force(1, 3, 4, 4)), [-12])

    def test_the_250_entries_are_looked_at_last(self):
        full = [tell(TWO), lock(1, 3), leave(3)] + [staff(1, 2)] * 248
        self.assertEqual(ask(*full, force(3, 3, 4, 5), force(1, 4, 5, 6), force(2, 3, 4, 5), force(1, 3, 4, 4),
                             force(1, 3, 4, 5), force(1, 3, 4, 5))[-7:],
                         [[0, 250], [-5], [-11], [-12], [-14], [-4], [-4]])


class OrderTest(unittest.TestCase):
    def test_numbers_for_all_rides_together(self):
        self.assertEqual(ask(tell(TWO), order(1), run(2), order(2), order(1))[1:],
                         [[0, 1, 1], [0, 2], [0, 3, 2], [0, 4, 3]])

    def test_an_open_order_stops_its_ride(self):
        self.assertEqual(ask(tell(TWO), order(1), run(1), run(2))[2:], [[-9], [0, 2]])

    def test_a_finished_order_stops_nothing(self):
        self.assertEqual(ask(tell(TWO), order(2), order(1), order(1), lock(1, 3), finish(2, 3), finish(3, 3),
                             unlock(1, 3), run(1), run(2))[5:], [[0, 5], [0, 6], [0, 7], [0, 8], [-9]])

    def test_every_order_must_be_finished(self):
        self.assertEqual(last(tell(TWO), order(1), order(1), lock(1, 3), finish(2, 3), unlock(1, 3), run(1)), [-9])

    def test_finished_numbers_are_not_used_again(self):
        self.assertEqual(last(tell(TWO), order(1), lock(1, 3), finish(1, 3), order(1)), [0, 4, 2])

    def test_refusals_in_their_order(self):
        self.assertEqual(last(order(1)), [-2])
        self.assertEqual(last(order(11)), [-1])
        self.assertEqual(last(tell(TWO), order(3)), [-5])
        self.assertEqual(ask(tell(TWO), *[order(1)] * 250, order(3), order(1))[-3:], [[0, 250, 250], [-5], [-4]])


class FinishTest(unittest.TestCase):
    def test_no_such_order(self):
        self.assertEqual(ask(tell(TWO), finish(1, 3), order(1), lock(1, 3), finish(2, 3), finish(250, 3))[1:],
                         [[-15], [0, 1, 1], [0, 2], [-15], [-15]])

    def test_finished_already(self):
        self.assertEqual(ask(tell(TWO), order(1), lock(1, 3), finish(1, 3), finish(1, 3))[3:], [[0, 3], [-16]])

    def test_gone(self):
        self.assertEqual(ask(tell(TWO), order(1), lock(1, 3), leave(3), finish(1, 3), come(3), finish(1, 3))[4:],
                         [[-11], [0, 4], [0, 5]])

    def test_a_lock_on_its_ride_is_wanted(self):
        self.assertEqual(ask(tell(TWO), order(1), finish(1, 3), lock(2, 3), finish(1, 3), lock(1, 4), finish(1, 3),
                             lock(1, 3), unlock(1, 3), finish(1, 3), finish(1, 4))[2:],
                         [[-12], [0, 2], [-12], [0, 3], [-12], [0, 4], [0, 5], [-12], [0, 6]])

    def test_refusals_in_their_order(self):
        self.assertEqual(last(finish(1, 3)), [-2])
        self.assertEqual(last(finish(251, 3)), [-1])
        self.assertEqual(last(tell(TWO), leave(3), finish(1, 3)), [-15])
        self.assertEqual(last(tell(TWO), order(1), lock(1, 3), finish(1, 3), unlock(1, 3), leave(3), finish(1, 3)),
                         [-16])
        self.assertEqual(last(tell(TWO), order(1), leave(3), finish(1, 3)), [-11])

    def test_the_250_entries_are_looked_at_last(self):
        full = [tell(TWO), order(1), order(1), lock(1, 3), finish(1, 3), leave(4)] + [staff(1, 2)] * 245
        self.assertEqual(ask(*full, finish(3, 3), finish(1, 3), finish(2, 4), finish(2, 5), finish(2, 3),
                             finish(2, 3))[-7:], [[0, 250], [-15], [-16], [-11], [-12], [-4], [-4]])

    def test_the_greatest_order(self):
        calls = [tell(TWO), lock(1, 3)] + [order(1)] * 248
        self.assertEqual(ask(*calls, finish(249, 3), finish(248, 3))[-2:], [[-15], [0, 250]])
        self.assertEqual(last(tell(TWO), *[order(1)] * 250, finish(250, 3)), [-12])


class StaffTest(unittest.TestCase):
    PARK = "ride r staff 2\nride q staff 0\nride o staff 9\n"

    def test_staff_as_told_last(self):
        self.assertEqual(ask(tell(self.PARK), run(1), staff(1, 1), run(1), staff(1, 2), run(1), staff(1, 20), run(1),
                             staff(1, 0), run(1))[1:],
                         [[-9], [0, 1], [-9], [0, 2], [0, 3], [0, 4], [0, 5], [0, 6], [-9]])

    def test_no_other_entry_changes_it(self):
        text = "sensor w stale 0\nride r staff 5\ncheck r c rounds 9\n"
        self.assertEqual(ask(tell(text), staff(1, 5), checked(1, 1), [4, 1, 0, 3], lock(1, 2), order(1), finish(1, 2),
                             unlock(1, 2), lock(1, 1), leave(1), force(1, 1, 3, 4), run(1, 2), come(1), run(1, 2))[11:],
                         [[0, 11], [0, 12], [0, 13]])

    def test_each_ride_for_itself(self):
        self.assertEqual(ask(tell(self.PARK), staff(3, 9), staff(2, 2), run(1), run(2), run(3))[3:],
                         [[-9], [0, 3], [0, 4]])

    def test_refusals_in_their_order(self):
        self.assertEqual(last(staff(1, 1)), [-2])
        self.assertEqual(last(staff(1, 21)), [-1])
        self.assertEqual(last(tell(self.PARK), staff(4, 1)), [-5])
        self.assertEqual(ask(tell(self.PARK), *[staff(1, 2)] * 250, staff(4, 1), staff(1, 1))[-3:],
                         [[0, 250], [-5], [-4]])


class LeavesTest(unittest.TestCase):
    def test_leaves_and_comes(self):
        self.assertEqual(ask(tell(""), come(3), leave(3), leave(3), leave(4), come(3), come(3), leave(3))[1:],
                         [[-11], [0, 1], [-11], [0, 2], [0, 3], [-11], [0, 4]])

    def test_no_other_entry_changes_it(self):
        text = "sensor w stale 0\nride r staff 0\ncheck r c rounds 9\n"
        self.assertEqual(ask(tell(text), lock(1, 1), leave(1), checked(1, 2), [4, 1, 0, 3], staff(1, 5), lock(1, 2),
                             order(1), finish(1, 2), unlock(1, 2), lock(1, 1), force(1, 1, 3, 4), run(), come(2),
                             come(1), leave(2))[10:], [[-11], [0, 10], [0, 11], [-11], [0, 12], [0, 13]])

    def test_refusals_in_their_order(self):
        self.assertEqual(last(leave(3)), [-2])
        self.assertEqual(last([13, 3, 2]), [-1])
        self.assertEqual(ask(tell("ride r staff 0\n"), leave(3), *[staff(1, 2)] * 249, leave(3), come(4), leave(4),
                             come(3))[-5:], [[0, 250], [-11], [-11], [-4], [-4]])


if __name__ == "__main__":
    unittest.main()
