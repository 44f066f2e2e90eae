"""The promises, in many lists of calls: beside a second telling of the park that changes as it goes."""

import random
import unittest

from tests.helper import ask, tell

TEXTS = [
    "sensor w stale 30\nsensor v stale 0\nride r staff 1\nride q staff 0\nride p staff 0\n"
    "rule r w above 50 below 40 hold 10\nrule q v below 40 above 60 hold 5\nrule q w above 80 below 80 hold 0\n"
    "check r c rounds 6\ncheck q c days 1\ncheck r d days 2\ncheck p e rounds 4\n",
    "ride a staff 0\nride b staff 2\n",
    "sensor w stale 5\nride a staff 0\nrule a w above 50 below 50 hold 3\nrule a w below 10 above 20 hold 8\n",
]
KEEN = ["reading", "reading", "reading", "run", "run", "run", "checked", "checked", "lock", "unlock", "unlock", "force",
        "order", "finish", "finish", "staff", "leaves", "pass"]


class Told:
    """The park told a second time: dicts that every accepted call changes."""

    def __init__(self, text):
        lines = [line.split() for line in text.splitlines()]
        self.sensors = [line for line in lines if line[0] == "sensor"]
        self.rides = [line for line in lines if line[0] == "ride"]
        self.rules = [line for line in lines if line[0] == "rule"]
        self.checks = [line for line in lines if line[0] == "check"]
        self.now = self.written = 0
        self.readings = {line[1]: {} for line in self.sensors}
        self.made = {}
        self.locks = {line[1]: [] for line in self.rides}
        self.orders = []
        self.staff = {}
        self.gone = set()

    def rule_stops(self, rule):
        told = self.readings[rule[2]]
        stale = next(int(line[3]) for line in self.sensors if line[1] == rule[2])
        if not told or (stale and max(told) + stale < self.now):
            return True
        shut, bad, sign = True, None, 1 if rule[3] == "above" else -1
        for minute in range(max(told) + 1):
            for value in told.get(minute, []):
                if sign * value >= sign * int(rule[4]):
                    shut, bad = True, minute
                elif sign * value <= sign * int(rule[6]):
                    shut = shut and bad is not None and minute < bad + int(rule[8])
        return shut

    def left(self, number):
        if number not in self.made:
            return 0
        minute, rounds = self.made[number]
        check = self.checks[number - 1]
        spent = self.now // 1440 - minute // 1440 if check[3] == "days" else rounds
        return max(0, int(check[4]) - spent)

    def may_run(self, name, want):
        checks = [number for number, line in enumerate(self.checks, 1) if line[1] == name]
        return not (any(self.rule_stops(rule) for rule in self.rules if rule[1] == name)
                    or any(self.left(number) == 0 for number in checks)
                    or self.locks[name] or any(ride == name and waits for ride, waits in self.orders)
                    or self.staff.get(name, 0) < want)

    def answer(self, call):
        number, first = call[0], call[1]
        if number == 3:
            if self.now + first > 1000000:
                return [-8]
            self.now += first
            return [0, self.now]
        refusal, change = getattr(self, f"call_{number}")(*call[1:])
        if refusal == 0 and self.written == 250:
            refusal = -4
        if refusal:
            return [refusal]
        self.written += 1
        return [0, self.written] + (change() or [])

    def call_4(self, sensor, minute, value):
        if sensor > len(self.sensors):
            return -6, None
        readings = self.readings[self.sensors[sensor - 1][1]]
        return (-8 if minute > self.now else 0), lambda: readings.setdefault(minute, []).append(value)

    def call_5(self, ride, rounds):
        if ride > len(self.rides):
            return -5, None
        name = self.rides[ride - 1][1]
        if not self.may_run(name, int(self.rides[ride - 1][3])):
            return -9, None
        by_rounds = [n for n, line in enumerate(self.checks, 1) if line[1] == name and line[3] == "rounds"]
        if any(self.left(n) < rounds for n in by_rounds):
            return -10, None

        def change():
            for n in by_rounds:
                self.made[n] = (self.made[n][0], self.made[n][1] + rounds)
        return 0, change

    def call_6(self, check, who):
        refusal = -7 if check > len(self.checks) else -11 if who in self.gone else 0
        return refusal, lambda: self.made.update({check: (self.now, 0)})

    def call_7(self, ride, who):
        if ride > len(self.rides):
            return -5, None
        locks = self.locks[self.rides[ride - 1][1]]
        return -11 if who in self.gone else -12 if who in locks else 0, lambda: locks.append(who)

    def call_8(self, ride, who):
        if ride > len(self.rides):
            return -5, None
        locks = self.locks[self.rides[ride - 1][1]]
        return -11 if who in self.gone else -12 if who not in locks else 0, lambda: locks.remove(who)

    def call_9(self, ride, who, one, another):
        if ride > len(self.rides):
            return -5, None
        locks = self.locks[self.rides[ride - 1][1]]
        others = len({one, another} - self.gone)
        return (-11 if who not in self.gone else -12 if who not in locks else -14 if others < 2 else 0,
                lambda: locks.remove(who))

    def call_10(self, ride):
        if ride > len(self.rides):
            return -5, None

        def change():
            self.orders.append((self.rides[ride - 1][1], True))
            return [len(self.orders)]
        return 0, change

    def call_11(self, order, who):
        if order > len(self.orders):
            return -15, None
        name, waits = self.orders[order - 1]
        refusal = -16 if not waits else -11 if who in self.gone else -12 if who not in self.locks[name] else 0

        def change():
            self.orders[order - 1] = (name, False)
        return refusal, change

    def call_12(self, ride, many):
        if ride > len(self.rides):
            return -5, None
        return 0, lambda: self.staff.update({self.rides[ride - 1][1]: many})

    def call_13(self, who, left):
        change = self.gone.add if left else self.gone.discard
        return -11 if (who in self.gone) == bool(left) else 0, lambda: change(who)


def some_call(chance, now):
    ride, who = chance.randint(1, 3), chance.randint(1, 4)
    back = max(0, now - chance.choice([0, 0, 1, 2, 5, 10, 11, 30, 31])) + (chance.random() < 0.02)
    level = chance.choice([0, 10, 20, 30, 39, 40, 41, 49, 50, 60, 61, 80, 81, 1000])
    return {"reading": [4, chance.randint(1, 2), back, level],
            "run": [5, ride, chance.randint(1, 3)],
            "checked": [6, chance.randint(1, 4), who],
            "lock": [7, ride, who],
            "unlock": [8, ride, who],
            "force": [9, ride, who, chance.randint(1, 4), chance.randint(1, 4)],
            "order": [10, ride],
            "finish": [11, chance.randint(1, 6), who],
            "staff": [12, ride, chance.randint(0, 3)],
            "leaves": [13, who, chance.randint(0, 1)],
            "pass": [3, chance.choice([1, 2, 5, 10, 30, 31, 700])]}[chance.choice(KEEN)]


def some_calls(seed):
    """A text, calls on its park, and what the second telling answers."""
    chance = random.Random(seed)
    text = chance.choice(TEXTS)
    told = Told(text)
    calls, wanted = [], []
    for step in range(299 if seed < 20 else chance.randint(1, 150)):
        calls.append(some_call(chance, told.now))
        wanted.append(told.answer(calls[-1]))
    return text, calls, wanted


class PromisesTest(unittest.TestCase):
    def test_as_told_a_second_time(self):
        seen = {}
        for seed in range(400):
            text, calls, wanted = some_calls(seed)
            self.assertEqual(ask(tell(text), *calls)[1:], wanted, seed)
            for call, answer in zip(calls, wanted):
                seen[call[0], min(0, answer[0])] = True
        # Lists that never come to a refusal, or to being accepted, would show nothing of it.
        for number, refusals in [(4, [-6, -8]), (5, [-5, -9, -10]), (6, [-7, -11]), (7, [-5, -11, -12]),
                                 (8, [-5, -11, -12]), (9, [-5, -11, -12, -14]), (10, [-5]), (11, [-15, -16, -11, -12]),
                                 (12, [-5]), (13, [-11])]:
            for answer in [0] + refusals:
                self.assertIn((number, answer), seen)

    def test_refused_calls_change_nothing(self):
        for seed in range(100):
            text, calls, wanted = some_calls(seed)
            kept = [(call, answer) for call, answer in zip(calls, wanted) if answer[0] == 0]
            self.assertEqual(ask(tell(text), *[call for call, answer in kept])[1:], [answer for call, answer in kept])

    def test_calls_behind_change_no_answer_ahead(self):
        for seed in range(30):
            text, calls, wanted = some_calls(seed)
            for many in range(0, len(calls), 17):
                self.assertEqual(ask(tell(text), *calls[:many])[1:], wanted[:many])

    def test_readings_in_any_order_tell_the_same(self):
        for seed in range(100):
            chance = random.Random(seed)
            readings = [[4, 1, minute, chance.choice([0, 9, 20, 30, 50, 51])] for minute in
                        chance.sample(range(31), chance.randint(1, 12))]
            found = set()
            for turn in range(6):
                chance.shuffle(readings)
                found.add(ask(tell(TEXTS[2]), [3, 31], *readings, [5, 1, 1])[-1][0])
            self.assertEqual(len(found), 1, readings)


if __name__ == "__main__":
    unittest.main()
