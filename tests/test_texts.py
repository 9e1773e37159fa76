import itertools
import random
import unittest
from fractions import Fraction

import helpers
from helpers import BIG, as_pair, as_point

from hangrings.errors import NoText
from hangrings.texts import (
    read_four, read_number, read_point, read_setting, read_table, read_way,
    show_four, show_number, show_point, show_setting, show_table, show_way,
)

LONG = 10 ** 1500 - 1
TOO_LONG = 10 ** 1500

NUMBERS = [
    ((0, 1), "0"), ((7, 1), "7"), ((-7, 1), "-7"), ((10, 1), "10"), ((-100, 1), "-100"), ((1, 2), "1/2"),
    ((-1, 2), "-1/2"), ((10, 3), "10/3"), ((-22, 7), "-22/7"), ((BIG, 1), "9" * 30), ((-1, BIG), "-1/" + "9" * 30),
    ((LONG, 1), "9" * 1500), ((-LONG, 1), "-" + "9" * 1500), ((-LONG, 10 ** 1499), "-" + "9" * 1500 + "/1" + "0" * 1499),
]
NO_WHOLE = [
    "", " ", "-", "+", "+1", "+0", "-0", "00", "01", "-01", "007", "--1", "- 1", "1-", "1_000", "1,000", "1.0", "1.",
    ".5", "1e3", "0x1", "a", "1a", "~", "!", " 1", "1 ", "1\n", "\n1", "\t1", "\u0661", "\u00b2", "\uff11", "One", "None",
    "1 2", "1:2", "1;", "(1)", "1" * 1501, "-" + "1" * 1501, "0" * 1500, "9" * 30000, "-" * 30000, " " * 30000, "0" * 30000,
]
NO_FRACTIONS = [
    "/", "1/", "/2", "1//2", "1/2/3", "2/4", "-2/4", "0/2", "0/1", "-0/3", "1/1", "7/1", "1/0", "0/0", "5/0", "1/-2",
    "-1/-2", "1/+2", "+1/2", "1 /2", "1/ 2", " 1/2", "1/2 ", "01/2", "1/02", "1/2.", "1/2a", "6/3", "3/-1", "1\\2", "1:2",
    "1/" + "1" * 1501, "1" * 1501 + "/2", "1" * 1500 + "/" + "1" * 1500, "1/" + "0" * 1500, "/" * 30000, "1/" * 15000,
    "1/" + "3" * 29998,
]
SETTINGS = [((0, 1), "0:1"), ((1, 0), "1:0"), ((-1, 0), "-1:0"), ((2, 4), "2:4"), ((0, -7), "0:-7"), ((-3, -5), "-3:-5"),
            ((LONG, -LONG), "9" * 1500 + ":-" + "9" * 1500)]
NO_SETTINGS = [
    "", ":", "0:0", "1", "1:", ":1", "1:2:3", "1 2", "1: 2", "1 :2", " 1:2", "1:2 ", "1::2", "+1:2", "1:-0", "-0:1", "01:2",
    "1:02", "1/2:1", "1;2", "1:a", "1:2\n", "1:" + "1" * 1501, ":" * 30000, "0:00", "1:2;",
]


def row_text(numbers):
    return " ".join(str(number) for number in numbers)


class NumbersTest(unittest.TestCase):
    def test_shown_and_read(self):
        for fraction, text in NUMBERS:
            self.assertEqual(show_number(fraction), text)
            self.assertEqual(read_number(text), fraction)
            self.assertIsInstance(read_number(text), tuple)

    def test_no_numbers(self):
        for text in NO_WHOLE + NO_FRACTIONS:
            with self.assertRaises(NoText, msg=text[:40]):
                read_number(text)

    def test_every_short_text(self):
        """A text is read to just the thing whose text it is: looked at for all short ones."""
        shown = {}
        for top, bottom in itertools.product(range(-999, 1000), range(1, 100)):
            fraction = as_pair(Fraction(top, bottom))
            shown[str(Fraction(*fraction))] = fraction
        for length in range(5):
            for signs in itertools.product("0129-/+ .", repeat=length):
                text = "".join(signs)
                if text in shown:
                    self.assertEqual(read_number(text), shown[text])
                elif len(text) < 4 or "/" in text:
                    with self.assertRaises(NoText, msg=text):
                        read_number(text)

    def test_many_figures(self):
        for top, bottom in [(LONG, 10 ** 1499), (10 ** 1499, LONG), (-LONG, 10 ** 1499 + 1), (1, LONG)]:
            fraction = as_pair(Fraction(top, bottom))
            self.assertEqual(read_number(show_number(fraction)), fraction)
        for text in [str(TOO_LONG), str(-TOO_LONG), "1/" + str(TOO_LONG), str(TOO_LONG) + "/3"]:
            with self.assertRaises(NoText):
                read_number(text)


class RowsTest(unittest.TestCase):
    def check_row(self, show, read, length):
        chance = random.Random(length)
        rows = [row for row in itertools.product((-12, 0, 3), repeat=length) if any(row)]
        rows += [tuple(chance.randint(-BIG, BIG) for place in range(length)) for number in range(20)]
        rows += [(LONG,) * length, (-LONG,) * length, (0,) * (length - 1) + (-LONG,)]
        for row in rows:
            self.assertEqual(show(row), row_text(row))
            self.assertEqual(read(row_text(row)), row)
            self.assertIsInstance(read(row_text(row)), tuple)

    def refused_rows(self, read, length):
        good = ["1", "-2", "3", "4"][:length]
        wrong = [" ".join(["0"] * length), " ".join(good[1:]), " ".join(good + ["5"]), " ".join(good) + " ",
                 " " + " ".join(good), "  ".join(good), "\t".join(good), ", ".join(good), ",".join(good), "; ".join(good),
                 "(" + ", ".join(good) + ")", " " * 30000, "1 " * 15000, " ".join(["-0"] * length), "1" * 30000]
        for place in range(length):
            for word in NO_WHOLE + ["1/2", "2/1", "1:2"]:
                wrong.append(" ".join(good[:place] + [word] + good[place + 1:]))
            doubled = list(good)
            doubled[place] += " "
            wrong.append(" ".join(doubled))
        for text in wrong:
            with self.assertRaises(NoText, msg=text[:60]):
                read(text)

    def test_fours(self):
        self.check_row(show_four, read_four, 4)
        self.refused_rows(read_four, 4)

    def test_ways(self):
        self.check_row(show_way, read_way, 3)
        self.refused_rows(read_way, 3)

    def test_single_ones(self):
        self.assertEqual(show_four((1, 0, -2, 30)), "1 0 -2 30")
        self.assertEqual(read_four("-2 -4 0 6"), (-2, -4, 0, 6))
        self.assertEqual(show_way((0, 0, -1)), "0 0 -1")
        self.assertEqual(read_way("0 -6 3"), (0, -6, 3))

    def test_settings(self):
        for setting, text in SETTINGS:
            self.assertEqual(show_setting(setting), text)
            self.assertEqual(read_setting(text), setting)
            self.assertIsInstance(read_setting(text), tuple)
        for text in NO_SETTINGS + [text for text in NO_WHOLE if text != "1:2"]:
            with self.assertRaises(NoText, msg=text[:40]):
                read_setting(text)


class PointsTest(unittest.TestCase):
    def test_shown_and_read(self):
        for point, text in [(as_point(0, 0, 0), "0 0 0"), (as_point(1, "-1/2", "10/3"), "1 -1/2 10/3"),
                            (as_point(-1, LONG, Fraction(1, LONG)), "-1 " + "9" * 1500 + " 1/" + "9" * 1500)]:
            self.assertEqual(show_point(point), text)
            self.assertEqual(read_point(text), point)
        for point in helpers.some_points(701, 30, 5) + helpers.some_points(702, 10, BIG) + helpers.some_points(703, 2, LONG):
            text = " ".join(str(Fraction(*entry)) for entry in point)
            self.assertEqual(show_point(point), text)
            self.assertEqual(read_point(text), point)
            self.assertTrue(all(isinstance(entry, tuple) for entry in read_point(text)))

    def test_no_points(self):
        good = ["1/2", "-3", "0"]
        wrong = ["", "1 2", "1 2 3 4", "1/2  -3 0", " 1 2 3", "1 2 3 ", "1; 2 3", "1 2 3;", "1,2,3", " " * 30000, "1/2 " * 7500]
        for place in range(3):
            for word in NO_WHOLE[:30] + NO_FRACTIONS:
                wrong.append(" ".join(good[:place] + [word] + good[place + 1:]))
        for text in wrong:
            with self.assertRaises(NoText, msg=text[:60]):
                read_point(text)

    def test_tables(self):
        points = helpers.some_points(704, 30, 6) + helpers.some_points(705, 6, BIG) + [as_point(0, 0, 0)] * 3
        for place in range(0, len(points), 3):
            table = tuple(points[place:place + 3])
            text = "; ".join(" ".join(str(Fraction(*entry)) for entry in point) for point in table)
            self.assertEqual(show_table(table), text)
            self.assertEqual(read_table(text), table)
        self.assertEqual(read_table("1 0 0; 0 1/2 0; 0 0 -3"), (as_point(1, 0, 0), as_point(0, "1/2", 0), as_point(0, 0, -3)))

    def test_no_tables(self):
        row = "1 2/3 -4"
        for text in ["", row, row + "; " + row, "; ".join([row] * 4), ";".join([row] * 3), " ; ".join([row] * 3),
                     ";  ".join([row] * 3), "; ".join([row] * 3) + ";", "; ".join([row] * 3) + "; ", "; " + "; ".join([row] * 3),
                     " ".join([row] * 3), "\n".join([row] * 3), "; ".join([row, row, "1 2"]), "; ".join([row, row, "1 2 2/2"]),
                     "; ".join([row, "1 2 3 4", row]), "; ".join([row, row, ""]), "; ".join(["01 2 3", row, row]),
                     "; " * 15000, "1 1 1; " * 4000, " " + "; ".join([row] * 3), "; ".join([row] * 3) + " "]:
            with self.assertRaises(NoText, msg=text[:60]):
                read_table(text)

    def test_longest_texts(self):
        number = "9" * 1500
        table = tuple([as_point(*[Fraction(-LONG, 10 ** 1499)] * 3)] * 3)
        text = show_table(table)
        self.assertEqual(text, "; ".join([" ".join(["-" + number + "/1" + "0" * 1499] * 3)] * 3))
        self.assertGreater(len(text), 27000)
        self.assertEqual(read_table(text), table)


if __name__ == "__main__":
    unittest.main()
