"""crew: how a crew parts its work best."""

import itertools
import random
import unittest

from tests.helper import STATE, ask, crew, last, order, tell


def pairs(row):
    return list(zip(row[::2], row[1::2]))


def by_trying(skills, jobs):
    """What crew answers, by going through every way that gives each job to anybody."""
    found = []
    for way in itertools.product(range(len(skills)), repeat=len(jobs) // 2):
        if all(skills[who] // 2 ** skill % 2 for who, (minutes, skill) in zip(way, pairs(jobs))):
            spent = [sum(minutes for by, (minutes, skill) in zip(way, pairs(jobs)) if by == who)
                     for who in range(len(skills))]
            found.append((max(spent), [who + 1 for who in way]))
    if not found:
        return [-18]
    taken, way = min(found)
    return [0, taken] + way


class BestWayTest(unittest.TestCase):
    def told(self, skills, *jobs):
        return last(crew(skills, [number for job in jobs for number in job]))

    def test_no_job(self):
        self.assertEqual(self.told([0]), [0, 0])
        self.assertEqual(self.told([31, 31, 31]), [0, 0])

    def test_one_person_does_all(self):
        self.assertEqual(self.told([1], (5, 0)), [0, 5, 1])
        self.assertEqual(self.told([31], (5, 0), (6, 4), (7, 2)), [0, 18, 1, 1, 1])
        self.assertEqual(self.told([31], *[(1000, skill % 5) for skill in range(7)]), [0, 7000] + [1] * 7)

    def test_three_people(self):
        self.assertEqual(self.told([31, 31, 31], (5, 0), (4, 0), (3, 0)), [0, 5, 1, 2, 3])
        self.assertEqual(self.told([31, 31, 31], (3, 0), (3, 0), (2, 0), (2, 0), (2, 0)), [0, 5, 1, 2, 1, 2, 3])

    def test_the_one_with_most_minutes_counts(self):
        self.assertEqual(self.told([1, 1], (8, 0), (3, 0), (4, 0)), [0, 8, 1, 2, 2])

    def test_more_to_one_is_the_best_way_where_another_can_do_one_alone(self):
        self.assertEqual(self.told([3, 1], (4, 1), (1, 0), (1, 0), (1, 0)), [0, 4, 1, 2, 2, 2])

    def test_seven_jobs(self):
        self.assertEqual(self.told([31, 31, 31], *[(10, 0)] * 7), [0, 30, 1, 1, 1, 2, 2, 2, 3])
        self.assertEqual(self.told([31, 31, 31], (1, 0), (2, 1), (3, 2), (4, 3), (5, 4), (6, 0), (7, 1)),
                         [0, 10, 1, 1, 2, 3, 1, 3, 2])

    def test_each_skill_is_a_digit(self):
        for skill in range(5):
            self.assertEqual(self.told([2 ** skill], (9, skill)), [0, 9, 1])
            self.assertEqual(self.told([31 - 2 ** skill], (9, skill)), [-18])
            self.assertEqual(self.told([31 - 2 ** skill, 2 ** skill], (9, skill)), [0, 9, 2])
            self.assertEqual(self.told([0, 31 - 2 ** skill, 31], (9, skill)), [0, 9, 3])

    def test_nobody_has_the_skill(self):
        self.assertEqual(self.told([0], (1, 0)), [-18])
        self.assertEqual(self.told([30, 14, 6], (1, 1), (1, 0)), [-18])
        self.assertEqual(self.told([15, 15, 15], (1, 4), (1, 0)), [-18])
        self.assertEqual(self.told([15, 15, 15], (1, 0), (1, 0), (1, 4)), [-18])

    def test_of_several_the_first_job_goes_to_the_least_number(self):
        self.assertEqual(self.told([1, 1, 1], (5, 0)), [0, 5, 1])
        self.assertEqual(self.told([1, 1], (5, 0), (5, 0)), [0, 5, 1, 2])
        self.assertEqual(self.told([1, 1, 1], (9, 0), (2, 0), (3, 0)), [0, 9, 1, 2, 2])
        self.assertEqual(self.told([1, 1, 1], (2, 0), (3, 0), (9, 0)), [0, 9, 1, 1, 2])

    def test_then_the_second_and_so_on(self):
        # The third can only go to the second, who may have the first as well without taking longer.
        self.assertEqual(self.told([1, 3], (4, 0), (2, 0), (9, 1)), [0, 9, 1, 1, 2])
        self.assertEqual(self.told([1, 3, 1], (9, 0), (9, 0), (9, 1)), [0, 9, 1, 3, 2])
        self.assertEqual(self.told([1, 1], (4, 0), (1, 0), (1, 0), (6, 0)), [0, 6, 1, 1, 1, 2])

    def test_the_least_time_goes_ahead_of_the_least_number(self):
        self.assertEqual(self.told([3, 1], (5, 0), (6, 1)), [0, 6, 2, 1])

    def test_every_way_tried(self):
        chance = random.Random(21)
        for turn in range(150):
            skills = [chance.choice([31, 31, chance.randint(0, 31)]) for person in range(chance.randint(1, 3))]
            jobs = []
            for job in range(chance.randint(0, 7)):
                jobs += [chance.choice([1, 2, 3, 5, 1000, chance.randint(1, 1000)]), chance.randint(0, 4)]
            self.assertEqual(last(crew(skills, jobs)), by_trying(skills, jobs), (skills, jobs))


class CrewCallTest(unittest.TestCase):
    def test_before_and_behind_a_park(self):
        call = crew([1, 2], [7, 1, 8, 0])
        self.assertEqual(ask(call, tell(""), call, crew([1], [1, 1])),
                         [[0, 8, 2, 1], [0, 0, 0, 0, 0], [0, 8, 2, 1], [-18]])
        self.assertEqual(ask(crew([1], [1, 1]), crew([], []))[:2], [[-18], [-1]])

    def test_lengths(self):
        for skills, jobs, answer in [([], [], [-1]), ([31] * 3, [], [0, 0]), ([31] * 4, [], [-1]),
                                     ([31] * 2500, [], [-1]), ([31], [1], [-1]), ([31], [1, 1, 1], [-1]),
                                     ([31], [1] * 13, [-1]), ([31], [1] * 14, [0, 7] + [1] * 7),
                                     ([31], [1] * 15, [-1]), ([31], [1] * 16, [-1]), ([31], [1] * 2500, [-1])]:
            self.assertEqual(last(crew(skills, jobs)), answer, (skills, jobs))

    def test_least_and_greatest(self):
        for skills, jobs, answer in [([0], [], [0, 0]), ([-1], [], [-1]), ([31], [], [0, 0]), ([32], [], [-1]),
                                     ([31, 31, 32], [], [-1]), ([31, -1, 31], [], [-1]),
                                     ([31], [1, 0], [0, 1, 1]), ([31], [0, 0], [-1]), ([31], [1000, 0], [0, 1000, 1]),
                                     ([31], [1001, 0], [-1]), ([31], [9, 4], [0, 9, 1]), ([31], [9, 5], [-1]),
                                     ([31], [9, -1], [-1]), ([31], [9, 4, 9, 5], [-1]), ([31], [9, 4, 0, 4], [-1]),
                                     ([31], [5, 5], [-1]), ([10 ** 18], [], [-1]), ([31], [-10 ** 18, 0], [-1])]:
            self.assertEqual(last(crew(skills, jobs)), answer, (skills, jobs))

    def test_out_of_range_is_told_ahead_of_no_way(self):
        self.assertEqual(last(crew([0], [1, 0, 1, 5])), [-1])
        self.assertEqual(last(crew([0, 32], [1, 0])), [-1])

    def test_the_calls_behind_are_found(self):
        for call in (crew([], []), crew([1], [1]), crew([0] * 9, [23] * 9), crew([1], [5, 0]), crew([0], [5, 0])):
            self.assertEqual(ask(tell(""), call, STATE)[2], [0, 0, 0, 0], call)

    def test_changes_nothing(self):
        text = "ride r staff 0\n"
        for call in (crew([1], [5, 0]), crew([0], [5, 0]), crew([1], [5])):
            self.assertEqual(ask(tell(text), order(1), call, order(1), STATE)[3:], [[0, 2, 2], [0, 0, 2, 2]])

    def test_20_of_the_longest(self):
        self.assertEqual(ask(*[crew([31, 31, 31], [1000, 0] * 7)] * 20), [[0, 3000, 1, 1, 1, 2, 2, 2, 3]] * 20)


if __name__ == "__main__":
    unittest.main()
