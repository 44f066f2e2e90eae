"""The promises, in many lists of calls: beside a second telling of the park that changes as it goes."""

import copy
import random
import unittest

from tests.helper import STATE, ask, due, entry, open_rides, rule, run, tell, wait, why, why_then

TEXTS = [
    "sensor w stale 30\nsensor v stale 0\nride r staff 1\nride q staff 0\nride p staff 0\n"
    "rule r w above 50 below 40 hold 10\nrule q v below 40 above 60 hold 5\nrule q w above 80 below 80 hold 0\n"
    "check r c rounds 6\ncheck q c days 1\ncheck r d days 2\ncheck p e rounds 4\n",
    "ride a staff 0\nride b staff 2\n",
    "sensor w stale 5\nride a staff 0\nrule a w above 50 below 50 hold 3\nrule a w below 10 above 20 hold 8\n",
]
ASKED = ["why", "whythen", "rule", "due", "locks", "orders", "openrides", "entry", "state"]
KEEN = ["reading", "reading", "reading", "run", "run", "run", "checked", "checked", "lock", "unlock", "unlock", "force",
        "order", "finish", "finish", "staff", "leaves", "pass"]
# With locks and orders as seldom as here, rides run more often.
CALM = ["reading"] * 8 + ["run"] * 10 + ["checked"] * 8 + ["staff"] * 4 + ["unlock"] * 4 + ["pass", "pass", "lock"]


class Told:
    """The park told a second time: dicts that every accepted call changes, and how they stood behind each entry."""

    def __init__(self, text):
        lines = [line.split() for line in text.splitlines()]
        self.sensors = [line for line in lines if line[0] == "sensor"]
        self.rides = [line for line in lines if line[0] == "ride"]
        self.rules = [line for line in lines if line[0] == "rule"]
        self.checks = [line for line in lines if line[0] == "check"]
        self.now = self.written = 0
        self.readings = {line[1]: {} for line in self.sensors}
        self.made = {}
        self.locks = {line[1]: [] for line in self.rides}
        self.orders = []
        self.staff = {}
        self.gone = set()
        self.lines = []
        self.past = [self.as_it_stands()]

    def as_it_stands(self):
        twin = copy.copy(self)
        for name in ("readings", "made", "locks", "orders", "staff"):
            setattr(twin, name, copy.deepcopy(getattr(self, name)))
        return twin

    def is_stale(self, line, now):
        told = [minute for minute in self.readings[line[2]] if minute <= now]
        stale = next(int(sensor[3]) for sensor in self.sensors if sensor[1] == line[2])
        return not told or (stale > 0 and max(told) + stale < now)

    def walk(self, line, now):
        """1 if the rule is shut, else 0; the last bad minute, how many readings, the last one's minute."""
        shut, bad, many, at, sign = True, None, 0, -1, 1 if line[3] == "above" else -1
        for minute in sorted(self.readings[line[2]]):
            for value in self.readings[line[2]][minute] if minute <= now else []:
                many, at = many + 1, minute
                if sign * value >= sign * int(line[4]):
                    shut, bad = True, minute
                elif sign * value <= sign * int(line[6]):
                    shut = shut and bad is not None and minute < bad + int(line[8])
        return [int(shut), -1 if bad is None else bad, many, at]

    def left(self, number, now):
        if number not in self.made:
            return 0
        minute, rounds = self.made[number]
        check = self.checks[number - 1]
        spent = now // 1440 - minute // 1440 if check[3] == "days" else rounds
        return max(0, int(check[4]) - spent)

    def reasons(self, ride, now):
        name, want = self.rides[ride - 1][1], int(self.rides[ride - 1][3])
        rules = [(number, line) for number, line in enumerate(self.rules, 1) if line[1] == name]
        found = [(1, number) for number, line in rules if self.is_stale(line, now)]
        found += [(2, number) for number, line in rules if self.walk(line, now)[0]]
        checks = [number for number, line in enumerate(self.checks, 1) if line[1] == name]
        found += [(3, number) for number in checks if self.left(number, now) == 0]
        found += [(4, who) for who in self.locks[name]]
        found += [(5, number) for number, (at, waits) in enumerate(self.orders, 1) if at == name and waits]
        found += [(6, want - self.staff.get(name, 0))] if want > self.staff.get(name, 0) else []
        return found

    def told_reasons(self, ride, now):
        found = self.reasons(ride, now)
        return [len(found)] + [number for pair in found for number in pair]

    def ask(self, number, *numbers):
        """What the calls 14 to 20, 22 and 23 answer; None if there's no such ride, rule or entry."""
        if number in (14, 15, 17, 18, 19) and numbers[0] > len(self.rides):
            return None
        name = self.rides[numbers[0] - 1][1] if number in (17, 18, 19) else None
        if number == 14:
            return self.told_reasons(numbers[0], self.now)
        if number == 15:
            return self.past[:numbers[2] + 1][-1].told_reasons(numbers[0], numbers[1])
        if number == 16:
            line = dict(enumerate(self.rules, 1)).get(numbers[0])
            return line and self.past[:numbers[2] + 1][-1].walk(line, numbers[1])
        if number == 17:
            return sum([[at, int(line[3] == "days"), self.left(at, self.now)]
                        for at, line in enumerate(self.checks, 1) if line[1] == name], [])
        if number in (18, 20):
            found = [ride for ride in range(1, len(self.rides) + 1) if not self.reasons(ride, numbers[0])]
            found = self.locks[name] if number == 18 else found
            return [len(found)] + found
        if number == 19:
            found = [at for at, (ride, waits) in enumerate(self.orders, 1) if ride == name and waits]
            return [len(found)] + found
        if number == 22:
            return self.lines[numbers[0] - 1] if numbers[0] <= len(self.lines) else None
        return [self.now, self.written, len(self.orders)]

    def line_of(self, call):
        kind = call[0] - 4 if call[0] != 13 else 10 - call[2]
        numbers = call[1:2] if call[0] == 13 else call[1:]
        return ([self.now, kind] + numbers + [0, 0, 0])[:6]

    def answer(self, call):
        number = call[0]
        if number >= 14:
            found = self.ask(*call)
            return [0] + found if found is not None else [{16: -17, 22: -15}.get(number, -5)]
        if number == 3:
            if self.now + call[1] > 1000000:
                return [-8]
            self.now += call[1]
            return [0, self.now]
        refusal, change = getattr(self, f"call_{number}")(*call[1:])
        if refusal == 0 and self.written == 250:
            refusal = -4
        if refusal:
            return [refusal]
        self.written += 1
        self.lines.append(self.line_of(call))
        told = change() or []
        self.past.append(self.as_it_stands())
        return [0, self.written] + told

    def call_4(self, sensor, minute, value):
        if sensor > len(self.sensors):
            return -6, None
        readings = self.readings[self.sensors[sensor - 1][1]]
        return (-8 if minute > self.now else 0), lambda: readings.setdefault(minute, []).append(value)

    def call_5(self, ride, rounds):
        if ride > len(self.rides):
            return -5, None
        name = self.rides[ride - 1][1]
        if self.reasons(ride, self.now):
            return -9, None
        by_rounds = [n for n, line in enumerate(self.checks, 1) if line[1] == name and line[3] == "rounds"]
        if any(self.left(n, self.now) < rounds for n in by_rounds):
            return -10, None

        def change():
            for n in by_rounds:
                self.made[n] = (self.made[n][0], self.made[n][1] + rounds)
        return 0, change

    def call_6(self, check, who):
        refusal = -7 if check > len(self.checks) else -11 if who in self.gone else 0
        return refusal, lambda: self.made.update({check: (self.now, 0)})

    def call_7(self, ride, who):
        if ride > len(self.rides):
            return -5, None
        locks = self.locks[self.rides[ride - 1][1]]
        return -11 if who in self.gone else -12 if who in locks else 0, lambda: locks.append(who)

    def call_8(self, ride, who):
        if ride > len(self.rides):
            return -5, None
        locks = self.locks[self.rides[ride - 1][1]]
        return -11 if who in self.gone else -12 if who not in locks else 0, lambda: locks.remove(who)

    def call_9(self, ride, who, one, another):
        if ride > len(self.rides):
            return -5, None
        locks = self.locks[self.rides[ride - 1][1]]
        others = len({one, another} - self.gone)
        return (-11 if who not in self.gone else -12 if who not in locks else -14 if others < 2 else 0,
                lambda: locks.remove(who))

    def call_10(self, ride):
        if ride > len(self.rides):
            return -5, None

        def change():
            self.orders.append((self.rides[ride - 1][1], True))
            return [len(self.orders)]
        return 0, change

    def call_11(self, order, who):
        if order > len(self.orders):
            return -15, None
        name, waits = self.orders[order - 1]
        refusal = -16 if not waits else -11 if who in self.gone else -12 if who not in self.locks[name] else 0

        def change():
            self.orders[order - 1] = (name, False)
        return refusal, change

    def call_12(self, ride, many):
        if ride > len(self.rides):
            return -5, None
        return 0, lambda: self.staff.update({self.rides[ride - 1][1]: many})

    def call_13(self, who, left):
        change = self.gone.add if left else self.gone.discard
        return -11 if (who in self.gone) == bool(left) else 0, lambda: change(who)


def some_question(chance, told):
    ride, first = chance.randint(1, 3), chance.choice([0, 250, told.written, chance.randint(0, told.written)])
    minute = chance.choice([told.now, chance.randint(0, told.now), told.now + chance.choice([1, 5, 30, 31, 1440])])
    return {"why": [14, ride],
            "whythen": [15, ride, minute, first],
            "rule": [16, chance.randint(1, 4), minute, first],
            "due": [17, ride],
            "locks": [18, ride],
            "orders": [19, ride],
            "openrides": [20, minute],
            "entry": [22, chance.randint(1, min(250, told.written + 2))],
            "state": [23]}[chance.choice(ASKED)]


def some_call(chance, now, keen):
    ride, who = chance.randint(1, 3), chance.randint(1, 4)
    back = max(0, now - chance.choice([0, 0, 1, 2, 5, 10, 11, 30, 31])) + (chance.random() < 0.02)
    level = chance.choice([0, 10, 20, 30, 39, 40, 41, 49, 50, 60, 61, 80, 81, 1000])
    return {"reading": [4, chance.randint(1, 2), back, level],
            "run": [5, ride, chance.randint(1, 3)],
            "checked": [6, chance.randint(1, 4), who],
            "lock": [7, ride, who],
            "unlock": [8, ride, who],
            "force": [9, ride, who, chance.randint(1, 4), chance.randint(1, 4)],
            "order": [10, ride],
            "finish": [11, chance.randint(1, 6), who],
            "staff": [12, ride, chance.randint(0, 3)],
            "leaves": [13, who, chance.randint(0, 1)],
            "pass": [3, chance.choice([1, 2, 5, 10, 30, 31, 700])]}[chance.choice(keen)]


def some_calls(seed):
    """A text, calls on its park, and what the second telling answers."""
    chance = random.Random(seed)
    text = chance.choice(TEXTS)
    keen = CALM if seed % 4 > 1 else KEEN
    told = Told(text)
    calls, wanted = [], []
    for step in range(299 if seed < 20 else chance.randint(1, 150)):
        asks = seed % 2 and chance.random() < 0.4
        calls.append(some_question(chance, told) if asks else some_call(chance, told.now, keen))
        wanted.append(told.answer(calls[-1]))
    return text, calls, wanted


class PromisesTest(unittest.TestCase):
    def test_as_told_a_second_time(self):
        seen = {}
        for seed in range(400):
            text, calls, wanted = some_calls(seed)
            self.assertEqual(ask(tell(text), *calls)[1:], wanted, seed)
            for call, answer in zip(calls, wanted):
                seen[call[0], min(0, answer[0])] = True
        # Lists that never come to a refusal, or to being accepted, would show nothing of it.
        for number, refusals in [(4, [-6, -8]), (5, [-5, -9, -10]), (6, [-7, -11]), (7, [-5, -11, -12]),
                                 (8, [-5, -11, -12]), (9, [-5, -11, -12, -14]), (10, [-5]), (11, [-15, -16, -11, -12]),
                                 (12, [-5]), (13, [-11]), (14, [-5]), (15, [-5]), (16, [-17]), (17, [-5]), (18, [-5]),
                                 (19, [-5]), (20, []), (22, [-15]), (23, [])]:
            for answer in [0] + refusals:
                self.assertIn((number, answer), seen)

    def test_refused_calls_change_nothing(self):
        for seed in range(100):
            text, calls, wanted = some_calls(seed)
            kept = [(call, answer) for call, answer in zip(calls, wanted) if answer[0] == 0]
            self.assertEqual(ask(tell(text), *[call for call, answer in kept])[1:], [answer for call, answer in kept])

    def test_calls_behind_change_no_answer_ahead(self):
        for seed in range(30):
            text, calls, wanted = some_calls(seed)
            for many in range(0, len(calls), 17):
                self.assertEqual(ask(tell(text), *calls[:many])[1:], wanted[:many])

    def test_what_was_known_at_any_entry_is_told_alike_for_ever(self):
        for seed in range(0, 60, 2):
            text, calls, wanted = some_calls(seed)
            early, chance = len(calls) // 2, random.Random(seed)
            minute, first = ask(tell(text), *calls[:early], STATE)[-1][1:3]
            asked = [[number, 1, chance.randint(0, minute + 50), chance.randint(0, first)]
                     for number in (15, 15, 15, 15, 16, 16)] + [why_then(1, minute, first)]
            asked += [entry(number) for number in range(1, first + 1)][:5]
            before = ask(tell(text), *calls[:early], *asked, why(1))[early + 1:]
            self.assertEqual(before[6], before[-1])
            calls = calls[:280]
            self.assertEqual(ask(tell(text), *calls, *asked)[len(calls) + 1:], before[:-1])

    def test_a_ride_runs_only_if_it_may(self):
        ran = 0
        for seed in range(42, 122, 4):
            text, calls, wanted = some_calls(seed)
            for many, call in enumerate(calls):
                if call[0] == 5 and call[1] <= text.count("ride "):
                    now = ask(tell(text), *calls[:many], STATE)[-1][1]
                    found = ask(tell(text), *calls[:many], why(call[1]), open_rides(now), due(call[1]), call)[-4:]
                    self.assertEqual(found[0] == [0, 0], call[1] in found[1][2:])
                    left = [found[2][at + 2] for at in range(1, len(found[2]), 3) if found[2][at + 1] == 0]
                    may = found[0] == [0, 0] and min(left, default=1000) >= call[2]
                    self.assertEqual(found[3][0] == 0, may)
                    ran += may
        self.assertGreater(ran, 50)

    def test_readings_in_any_order_tell_the_same(self):
        for seed in range(100):
            chance = random.Random(seed)
            readings = [[4, 1, minute, chance.choice([0, 9, 20, 30, 50, 51])] for minute in
                        chance.sample(range(31), chance.randint(1, 12))]
            found = set()
            for turn in range(6):
                chance.shuffle(readings)
                asked = [why(1), rule(1, 20), rule(2, 31), run(1)]
                found.add(str(ask(tell(TEXTS[2]), wait(31), *readings, *asked)[-4:]))
            self.assertEqual(len(found), 1, readings)


if __name__ == "__main__":
    unittest.main()
