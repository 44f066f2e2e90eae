"""open, check and print: the park as a text."""

import unittest

from tests.helper import PRINT, as_bytes, ask, check, last, run, tell, wait

PARK = ("sensor wind stale 30\n"
        "ride wheel staff 2\n"
        "rule wheel wind above 50 below 40 hold 10\n"
        "check wheel brakes days 7\n")


def named(count, form):
    return "".join(form.replace("@", "abcdefghijklmnopqrstuvwxyz"[i]) + "\n" for i in range(count))


SENSORS = named(6, "sensor @ stale 5")
RIDES = named(10, "ride @ staff 1")
RULES = "rule a a above 5 below 4 hold 3\n" * 20
CHECKS = named(20, "check a @ days 1")


def text_of_2000_bytes():
    """A sound one, brought to its length by the numbers in its checks."""
    text = (SENSORS + RIDES).replace(" a ", " aaaaaaaa ")
    text += "rule aaaaaaaa aaaaaaaa above 1000 below 1000 hold 1440\n" * 20
    checks = named(20, "check aaaaaaaa @bcdefgh days 1").splitlines()
    missing = 2000 - len(text) - sum(len(line) + 1 for line in checks)
    for line in checks:
        zeros = min(4, missing)
        missing -= zeros
        text += line + "0" * zeros + "\n"
    return text


class CheckTest(unittest.TestCase):
    def sound(self, text, sensors, rides, rules, checks):
        self.assertEqual(last(check(text)), [0, 0, sensors, rides, rules, checks], text)

    def wrong(self, text, what, line):
        self.assertEqual(last(check(text)), [0, 1, what, line], text)

    def line_is(self, what, line):
        """The line, behind a sensor, a ride and a check called s, r and c, is wrong by what (0: it isn't)."""
        text = "sensor s stale 5\nride r staff 1\ncheck r c days 1\n" + line + "\n"
        if what == 0:
            self.assertEqual(last(check(text))[:2], [0, 0], line)
        else:
            self.wrong(text, what, 4)

    def test_counts(self):
        self.sound(PARK, 1, 1, 1, 1)
        self.sound("", 0, 0, 0, 0)
        self.sound("ride a staff 0\nride b staff 0\nsensor a stale 0\ncheck b a rounds 3\n", 1, 2, 0, 1)

    def test_check_leaves_no_park(self):
        self.assertEqual(ask(check(PARK), PRINT), [[0, 0, 1, 1, 1, 1], [-2]])

    def test_check_when_a_park_is_told(self):
        self.assertEqual(ask(tell(PARK), check("x\n"), check(""), PRINT)[1:],
                         [[0, 1, 1, 1], [0, 0, 0, 0, 0, 0], [0] + as_bytes(PARK)])

    def test_not_such_a_line(self):
        for line in ["", " ", "x", "sensor", "sensor a", "sensor a stale", "sensor a stale 5 6",
                     "sensor a staff 5", "ride a stale 5", "Sensor a stale 5", "sensors a stale 5",
                     "rule r s above 5 above 4 hold 3", "rule r s below 5 below 6 hold 3", "rule r s above 5 below 4",
                     "rule r s above 5 below 4 stale 3", "rule r above 5 below 4 hold 3",
                     "rule r s hold 3 above 5 below 4",
                     "check r d days", "check r d hours 5", "check r days 5", "check r d e days 5"]:
            self.line_is(1, line)

    def test_blanks(self):
        for line in [" sensor a stale 5", "sensor a stale 5 ", "sensor  a stale 5", "sensor a\tstale 5",
                     "sensor a stale 5\r", "sensor a stale  5", "\0sensor a stale 5"]:
            self.line_is(1, line)

    def test_names(self):
        for name in ["a", "z", "abcdefgh", "stale", "sensor"]:
            self.line_is(0, f"sensor {name} stale 5")
            self.line_is(0, f"ride {name} staff 5")
            self.line_is(0, f"check r {name} days 5")
        for name in ["abcdefghi", "A", "a1", "1", "a-b", "a_b", "`", "{", "\xe4", "\xff", "a\0"]:
            self.line_is(1, f"sensor {name} stale 5")
            self.line_is(1, f"ride {name} staff 5")
            self.line_is(1, f"check r {name} days 5")
            self.line_is(1, f"check {name} d days 5")
            self.line_is(1, f"rule {name} s above 5 below 4 hold 3")
            self.line_is(1, f"rule r {name} above 5 below 4 hold 3")

    def test_numbers(self):
        for number in ["00", "01", "007", "100000", "000000", "-1", "+1", "a", "1a", "1.0", "/", ":", "\xb2"]:
            self.line_is(1, f"sensor a stale {number}")
            self.line_is(1, f"ride a staff {number}")
            self.line_is(1, f"rule r s above {number} below 0 hold 0")
            self.line_is(1, f"rule r s above 0 below {number} hold 0")
            self.line_is(1, f"rule r s above 0 below 0 hold {number}")
            self.line_is(1, f"check r d days {number}")
            self.line_is(1, f"check r d rounds {number}")

    def test_least_and_greatest(self):
        for form, least, greatest in [("sensor a stale {}", 0, 1440), ("ride a staff {}", 0, 9),
                                      ("rule r s above {} below 0 hold 0", 0, 1000),
                                      ("rule r s above 1000 below {} hold 0", 0, 1000),
                                      ("rule r s below {} above 1000 hold 0", 0, 1000),
                                      ("rule r s below 0 above {} hold 0", 0, 1000),
                                      ("rule r s above 5 below 4 hold {}", 0, 1440),
                                      ("rule r s below 4 above 5 hold {}", 0, 1440),
                                      ("check r d days {}", 1, 10000), ("check r d rounds {}", 1, 10000)]:
            self.line_is(0, form.format(least))
            self.line_is(0, form.format(greatest))
            self.line_is(3, form.format(greatest + 1))
            self.line_is(3, form.format(99999))
            if least > 0:
                self.line_is(3, form.format(least - 1))

    def test_wrong_way_round(self):
        self.line_is(0, "rule r s above 5 below 5 hold 0")
        self.line_is(3, "rule r s above 5 below 6 hold 0")
        self.line_is(0, "rule r s below 5 above 5 hold 0")
        self.line_is(3, "rule r s below 6 above 5 hold 0")

    def test_names_taken_and_not_told(self):
        self.line_is(2, "sensor s stale 5")
        self.line_is(0, "sensor r stale 5")
        self.line_is(2, "ride r staff 1")
        self.line_is(0, "ride s staff 1")
        self.line_is(2, "check r c rounds 4")
        self.line_is(2, "check s d days 4")
        self.line_is(2, "rule s s above 5 below 4 hold 3")
        self.line_is(2, "rule r r above 5 below 4 hold 3")
        self.line_is(0, "ride q staff 1\ncheck q c days 1")

    def test_told_on_a_line_behind(self):
        self.wrong("ride r staff 1\nrule r s above 5 below 4 hold 3\nsensor s stale 5\n", 2, 2)
        self.wrong("sensor s stale 5\nrule r s above 5 below 4 hold 3\nride r staff 1\n", 2, 2)
        self.wrong("check r c days 1\nride r staff 1\n", 2, 1)

    def test_too_many(self):
        all_told = SENSORS + RIDES + RULES + CHECKS
        self.sound(all_told, 6, 10, 20, 20)
        self.wrong(all_told + "sensor q stale 5\n", 4, 57)
        self.wrong(all_told + "ride q staff 1\n", 4, 57)
        self.wrong(all_told + "rule a a below 5 above 5 hold 3\n", 4, 57)
        self.wrong(all_told + "check a z rounds 1\n", 4, 57)
        self.wrong(all_told + "check b a rounds 1\n", 4, 57)

    def test_several_wrongs_in_one_line(self):
        full = SENSORS + RIDES + RULES + CHECKS
        self.wrong("sensor a stale 5\nsensor a stale 01\n", 1, 2)
        self.wrong("sensor a stale 5\nsensor a stale 9999\n", 2, 2)
        self.wrong("rule r s above 5 below 6 hold 9999\n", 2, 1)
        self.wrong("check r c days 0\n", 2, 1)
        for line, what in [("sensor a stale 100000", 1), ("sensor a stale 9999", 2), ("sensor q stale 9999", 3),
                           ("ride a staff 100000", 1), ("ride a staff 10", 2), ("ride q staff 10", 3),
                           ("rule q a above 5 below 6 hold 3 ", 1), ("rule q a above 5 below 6 hold 3", 2),
                           ("rule a a above 5 below 6 hold 3", 3),
                           ("check a a days 00", 1), ("check a a days 0", 2), ("check a z days 0", 3)]:
            self.wrong(full + line + "\n", what, 57)

    def test_first_wrong_line_of_several(self):
        self.wrong("sensor a stale 9999\nx\nsensor a stale 5\n", 3, 1)
        self.wrong("sensor a stale 5\nsensor a stale 5\nx\nride r staff 10\n", 2, 2)
        self.wrong("\n\n", 1, 1)
        self.wrong("sensor a stale 5\n\nsensor a stale 5\n", 1, 2)

    def test_behind_the_last_line(self):
        self.wrong("sensor a stale 5", 1, 1)
        self.wrong(PARK + "sensor a stale 5", 1, 5)
        self.wrong(PARK + " ", 1, 5)
        self.wrong("sensor a stale 9999\nx", 3, 1)
        self.wrong("\xff", 1, 1)

    def test_every_byte(self):
        for byte in range(256):
            row = as_bytes("sensor ") + [byte] + as_bytes(" stale 5\n")
            good = ord("a") <= byte <= ord("z")
            self.assertEqual(last(check(row)), [0, 0, 1, 0, 0, 0] if good else [0, 1, 1, 1], byte)

    def test_range_of_the_text(self):
        for call in (check, tell):
            refused = [-13] if call is tell else [0, 1, 1, 1]
            self.assertEqual(last(call([10] * 2000)), refused)
            self.assertEqual(last(call([10] * 2001)), [-1])
            self.assertEqual(last(call([10] * 2500)), [-1])
            self.assertEqual(last(call([0])), refused)
            self.assertEqual(last(call([255])), refused)
            self.assertEqual(last(call([256])), [-1])
            self.assertEqual(last(call([-1])), [-1])
            self.assertEqual(last(call([10] * 1999 + [10 ** 18])), [-1])
            self.assertEqual(last(call([-10 ** 18])), [-1])


class OpenTest(unittest.TestCase):
    def test_answers_the_counts(self):
        self.assertEqual(last(tell(PARK)), [0, 1, 1, 1, 1])
        self.assertEqual(last(tell(SENSORS + RIDES + RULES + CHECKS)), [0, 6, 10, 20, 20])

    def test_the_longest_text(self):
        text = text_of_2000_bytes()
        self.assertEqual(len(text), 2000)
        self.assertEqual(ask(check(text), tell(text), PRINT),
                         [[0, 0, 6, 10, 20, 20], [0, 6, 10, 20, 20], [0] + as_bytes(text)])

    def test_the_empty_text_is_a_park(self):
        self.assertEqual(ask(tell(""), PRINT, wait(1), tell("")), [[0, 0, 0, 0, 0], [0], [0, 1], [-3]])

    def test_wrong_text(self):
        for text in ["x\n", "sensor a stale 5", "sensor a stale 5\nsensor a stale 5\n", "ride a staff 10\n",
                     SENSORS + "sensor q stale 5\n"]:
            self.assertEqual(ask(tell(text), PRINT, tell(PARK), PRINT),
                             [[-13], [-2], [0, 1, 1, 1, 1], [0] + as_bytes(PARK)], text)

    def test_told_already(self):
        self.assertEqual(ask(tell(PARK), tell("ride a staff 0\n"), tell("x\n"), tell([256]), PRINT),
                         [[0, 1, 1, 1, 1], [-3], [-3], [-1], [0] + as_bytes(PARK)])

    def test_told_already_keeps_minute_and_entries(self):
        calls = [tell("ride a staff 0\n"), wait(7), run(), tell("ride b staff 0\n"), wait(1), run()]
        self.assertEqual(ask(*calls), [[0, 0, 1, 0, 0], [0, 7], [0, 1], [-3], [0, 8], [0, 2]])


class PrintTest(unittest.TestCase):
    def form(self, text):
        return "".join(map(chr, last(tell(text), PRINT)[1:]))

    def test_one_form(self):
        text = ("ride b staff 0\nsensor z stale 1440\ncheck b y rounds 10000\nride a staff 9\n"
                "rule a z below 5 above 6 hold 0\nsensor a stale 0\nrule b a above 1000 below 0 hold 1440\n"
                "check a x days 1\nrule a z above 7 below 7 hold 1\ncheck b x days 2\n")
        self.assertEqual(self.form(text),
                         "sensor z stale 1440\nsensor a stale 0\nride b staff 0\nride a staff 9\n"
                         "rule a z below 5 above 6 hold 0\nrule b a above 1000 below 0 hold 1440\n"
                         "rule a z above 7 below 7 hold 1\n"
                         "check b y rounds 10000\ncheck a x days 1\ncheck b x days 2\n")

    def test_the_one_form_is_its_own(self):
        text = SENSORS + RIDES + RULES + CHECKS
        self.assertEqual(self.form(text), text)
        self.assertEqual(self.form(CHECKS.join([RIDES, ""]) + SENSORS), SENSORS + RIDES + CHECKS)

    def test_no_park(self):
        self.assertEqual(last(PRINT), [-2])


if __name__ == "__main__":
    unittest.main()
