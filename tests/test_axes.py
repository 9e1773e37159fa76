import unittest
from fractions import Fraction
from functools import reduce
from math import gcd

import helpers
from helpers import BIG, NOTHING, as_pair, is_fraction, is_plain_four, is_plain_setting, is_row, times

from hangrings.axes import about, axis, comes_back, rest, setting_about, setting_between
from hangrings.fours import back, plain, then, turned

FEW = helpers.some_fours(21, 40, 9)
GREAT = helpers.some_fours(22, 10, BIG)
MULTIPLES = [1, -1, 4, -6, BIG]


class AxisTest(unittest.TestCase):
    def test_of_single_ones(self):
        self.assertEqual(axis((2, 4, 6, -8)), (2, 3, -4))
        self.assertEqual(axis((-1, 4, 6, -8)), (-2, -3, 4))
        self.assertEqual(axis((1, 0, 0, -3)), (0, 0, -1))
        self.assertEqual(axis((7, -5, 0, 0)), (-1, 0, 0))

    def test_none_of_the_turn_that_moves_nothing(self):
        for number in MULTIPLES:
            self.assertIsNone(axis((number, 0, 0, 0)))

    def test_of_half_turns(self):
        self.assertEqual(axis((0, -2, 4, 6)), (1, -2, -3))
        self.assertEqual(axis((0, 2, -4, -6)), (1, -2, -3))
        self.assertEqual(axis((0, 0, -5, 10)), (0, 1, -2))
        self.assertEqual(axis((0, 0, 0, -5)), (0, 0, 1))

    def test_as_the_document_tells(self):
        for four in FEW + GREAT:
            for number in MULTIPLES:
                way = axis(times(number, four))
                self.assertTrue(is_row(way, 3))
                self.assertEqual(gcd(*way), 1)
                w, x, y, z = plain(four)
                stretch = gcd(x, y, z)
                self.assertEqual((w, x, y, z), (w,) + times(stretch, way))

    def test_the_axis_stays(self):
        for four in FEW:
            point = tuple((number, 1) for number in axis(four))
            self.assertEqual(turned(four, point), point)


class RestTest(unittest.TestCase):
    def test_of_single_ones(self):
        self.assertEqual(rest(NOTHING), (1, 1))
        self.assertEqual(rest((-9, 0, 0, 0)), (1, 1))
        self.assertEqual(rest((0, 2, -4, 5)), (0, 1))
        self.assertEqual(rest((1, 1, 0, 0)), (1, 2))
        self.assertEqual(rest((2, 4, 0, 0)), (1, 5))
        self.assertEqual(rest((-3, 1, 1, 1)), (3, 4))

    def test_as_the_document_tells(self):
        for four in FEW + GREAT:
            expected = as_pair(Fraction(four[0] ** 2, sum(number ** 2 for number in four)))
            for number in MULTIPLES:
                told = rest(times(number, four))
                self.assertEqual(told, expected)
                self.assertTrue(is_fraction(told))
            self.assertEqual(rest(back(four)), expected)


class ComesBackTest(unittest.TestCase):
    def test_each_count(self):
        examples = {
            1: [NOTHING, (-4, 0, 0, 0)],
            2: [(0, 1, 0, 0), (0, 3, -4, 7), (0, 0, -2, 0)],
            3: [(1, 1, 1, 1), (-1, 1, -1, 1), (1, 1, 1, -1), (5, 5, -5, 5), (2, 2, 2, -2), (3, 1, 1, 5)],
            4: [(1, 1, 0, 0), (1, 0, -1, 0), (-3, 0, 0, 3), (3, 1, 2, 2), (5, 0, 3, 4)],
            6: [(3, 1, 1, 1), (-3, 1, -1, 1), (9, 5, 1, 1)],
            None: [(2, 1, 0, 0), (1, 2, 0, 0), (1, 2, 3, 4), (2, 1, 1, 1), (1, 1, 1, 0), (BIG, 1, 0, 0)],
        }
        for count, fours in examples.items():
            for four in fours:
                self.assertEqual(comes_back(four), count, four)

    def test_by_doing_it_again_and_again(self):
        seen = set()
        for four in helpers.small_fours(3):
            made = plain(four)
            count = 1
            while made != NOTHING and count < 7:
                made = then(made, four)
                count += 1
            told = comes_back(four)
            self.assertEqual(told, count if made == NOTHING else None, four)
            seen.add(told)
        self.assertEqual(seen, {1, 2, 3, 4, 6, None})

    def test_great_ones(self):
        for four in GREAT:
            inside = then(then(back(four), (1, 1, 1, 1)), four)
            self.assertEqual(comes_back(inside), 3)
            self.assertEqual(comes_back(then(then(back(four), (0, 1, 2, 3)), four)), 2)


class AboutTest(unittest.TestCase):
    def test_of_single_ones(self):
        self.assertEqual(about((1, 2, 3), (0, 1)), NOTHING)
        self.assertEqual(about((1, 2, 3), (0, -5)), NOTHING)
        self.assertEqual(about((-2, 4, 6), (1, 0)), (0, 1, -2, -3))
        self.assertEqual(about((-2, 4, 6), (-7, 0)), (0, 1, -2, -3))
        self.assertEqual(about((2, 0, -4), (3, 2)), (1, 3, 0, -6))
        self.assertEqual(about((2, 0, -4), (3, -2)), (1, -3, 0, 6))
        self.assertEqual(about((2, 0, -4), (-6, 4)), (1, -3, 0, 6))

    def test_the_document_s_one_turn(self):
        one_turn = [about((0, 0, 1), (1, 1)), about((0, 0, 2), (1, 2)), about((0, 0, -1), (-1, 1))]
        self.assertEqual(one_turn, [(1, 0, 0, 1)] * 3)

    def test_as_the_document_tells(self):
        for x, y, z in helpers.small_ways(2) + [(BIG, -5, BIG - 1)]:
            for k, l in [(1, 1), (2, -4), (-6, 9), (0, 3), (5, 0), (BIG, 7)]:
                told = about((x, y, z), (k, l))
                self.assertTrue(is_plain_four(told))
                self.assertTrue(helpers.same_turn(told, (l, k * x, k * y, k * z)))


class SettingAboutTest(unittest.TestCase):
    def test_the_document_s_examples(self):
        self.assertEqual(setting_about((0, 0, 1), (1, 0, 0, 1)), (1, 1))
        self.assertEqual(setting_about((0, 0, 2), (1, 0, 0, 1)), (1, 2))
        self.assertEqual(setting_about((0, 0, -1), (1, 0, 0, 1)), (-1, 1))

    def test_half_a_turn_and_none(self):
        for way in [(1, -2, 3), (-2, 4, -6), (5, -10, 15)]:
            for number in MULTIPLES:
                self.assertEqual(setting_about(way, times(number, (0, 1, -2, 3))), (1, 0))
                self.assertEqual(setting_about(way, (number, 0, 0, 0)), (0, 1))

    def test_none_about_this_way(self):
        self.assertIsNone(setting_about((1, 0, 0), (1, 0, 1, 0)))
        self.assertIsNone(setting_about((1, 0, 0), (0, 1, 1, 0)))
        self.assertIsNone(setting_about((0, 0, 1), (2, 1, 0, 0)))
        self.assertIsNone(setting_about((1, 2, 3), (1, 1, 2, 4)))
        self.assertIsNone(setting_about((1, 2, 3), (1, 1, 3, 3)))
        self.assertIsNone(setting_about((1, 2, 3), (1, 2, 2, 3)))
        self.assertIsNone(setting_about((1, 2, 3), (1, 1, 2, -3)))

    def test_just_the_setting_that_makes_it(self):
        settings = helpers.small_plain_settings(4)
        for way in helpers.small_ways(2):
            for setting in settings:
                self.assertEqual(setting_about(way, about(way, setting)), setting)
                self.assertEqual(setting_about(way, times(-3, about(way, setting))), setting)

    def test_none_where_no_setting_makes_it(self):
        for way in [(1, 0, 0), (0, 2, -2), (1, -1, 2), (0, 0, -3)]:
            for four in helpers.small_plain_fours(2):
                along = all(way[i] * four[j + 1] == way[j] * four[i + 1] for i in range(3) for j in range(3))
                told = setting_about(way, four)
                self.assertEqual(told is not None, along)
                if along:
                    self.assertTrue(is_plain_setting(told))
                    self.assertEqual(about(way, told), four)

    def test_great_ones(self):
        way = (BIG, 2 - BIG, 17)
        for setting in [(BIG - 1, BIG), (-BIG, 4), (1, BIG)]:
            self.assertEqual(setting_about(way, about(way, setting)), setting)
            self.assertIsNone(setting_about((BIG, 2 - BIG, 18), about(way, setting)))

    def test_told_settings_of_many_figures(self):
        way = (3, -1, 2)
        four = reduce(then, [about(way, (BIG - number, 2 * number + 1)) for number in range(1, 31)])
        setting = setting_about(way, four)
        self.assertGreater(abs(setting[0]), 10 ** 700)
        self.assertEqual(about(way, setting), four)


class SettingBetweenTest(unittest.TestCase):
    def test_just_the_setting_that_leads_there(self):
        settings = helpers.small_plain_settings(3)
        for way in helpers.small_ways(2)[::5]:
            for row in [(1, 2, 4), (-3, 5, 1), (0, 0, 7), (4, 0, -1)]:
                if gcd(*[way[i] * row[j] - way[j] * row[i] for i in range(3) for j in range(i)]) == 0:
                    continue
                for setting in settings:
                    there = turned(about(way, setting), tuple((number, 1) for number in row))
                    bottom = there[0][1] * there[1][1] * there[2][1]
                    other = tuple(top * bottom // below for top, below in there)
                    self.assertEqual(setting_between(way, times(bottom, row), other), setting)

    def test_none_where_none_leads_there(self):
        self.assertIsNone(setting_between((0, 0, 1), (3, 4, 0), (5, 0, 1)))
        self.assertIsNone(setting_between((0, 0, 1), (3, 4, 0), (4, 4, 0)))
        self.assertIsNone(setting_between((0, 0, 1), (3, 4, 2), (3, 4, -2)))
        self.assertIsNone(setting_between((1, 1, 0), (1, 0, 0), (0, 2, 0)))


if __name__ == "__main__":
    unittest.main()
