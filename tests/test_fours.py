import random
import unittest
from fractions import Fraction
from functools import reduce
from math import gcd

import helpers
from helpers import BIG, NOTHING, as_point, is_fraction, is_plain_four, times

from hangrings.fours import back, plain, product, size, then, turned

FEW = helpers.some_fours(1, 30, 9) + [NOTHING, (0, 1, 0, 0), (0, 0, -3, 0), (0, 0, 0, 2), (1, 1, 0, 0), (-5, 0, 0, 0)]
GREAT = helpers.some_fours(2, 12, BIG)
POINTS = helpers.some_points(3, 8, 20) + [as_point(0, 0, 0), as_point(1, 0, 0), as_point(0, -1, 0)]
GREAT_POINTS = helpers.some_points(4, 6, BIG)
MULTIPLES = [1, 2, 3, 12, -1, -2, -35, 10 ** 20, -(10 ** 20)]


class PlainTest(unittest.TestCase):
    def test_plain_ones_stay(self):
        for four in helpers.small_plain_fours(2):
            self.assertEqual(plain(four), four)

    def test_multiples_are_made_plain(self):
        for four in helpers.small_plain_fours(2)[::7]:
            for number in MULTIPLES:
                self.assertEqual(plain(times(number, four)), four)

    def test_noughts_ahead(self):
        self.assertEqual(plain((0, -1, 0, 0)), (0, 1, 0, 0))
        self.assertEqual(plain((0, -2, 4, 6)), (0, 1, -2, -3))
        self.assertEqual(plain((0, 2, -4, 6)), (0, 1, -2, 3))
        self.assertEqual(plain((0, 0, -3, 6)), (0, 0, 1, -2))
        self.assertEqual(plain((0, 0, 3, -6)), (0, 0, 1, -2))
        self.assertEqual(plain((0, 0, 0, -7)), (0, 0, 0, 1))
        self.assertEqual(plain((0, 0, 0, 7)), (0, 0, 0, 1))

    def test_pairs_with_a_divisor_that_not_all_have(self):
        self.assertEqual(plain((6, 10, 15, 0)), (6, 10, 15, 0))
        self.assertEqual(plain((-12, 20, 30, 0)), (6, -10, -15, 0))
        self.assertEqual(plain((4, 0, 0, 6)), (2, 0, 0, 3))

    def test_great_numbers(self):
        self.assertEqual(plain((BIG, BIG, -BIG, 0)), (1, 1, -1, 0))
        self.assertEqual(plain((-BIG, BIG - 1, 0, 0)), (BIG, 1 - BIG, 0, 0))
        for four in GREAT:
            told = plain(four)
            divisor = gcd(*four) * (1 if four > (0, 0, 0, 0) else -1)
            self.assertEqual(told, tuple(number // divisor for number in four))
            self.assertTrue(is_plain_four(told))

    def test_numbers_of_1500_figures(self):
        base = 10 ** 1495 + 7
        self.assertEqual(plain(times(-base, (3, -4, 0, 12))), (3, -4, 0, 12))

    def test_kind(self):
        for four in FEW + GREAT:
            self.assertTrue(is_plain_four(plain(four)))


class SizeTest(unittest.TestCase):
    def test_of_just_the_handed_numbers(self):
        self.assertEqual(size((1, 2, 3, 4)), 30)
        self.assertEqual(size((2, 4, 6, 8)), 120)
        self.assertEqual(size((-2, -4, -6, -8)), 120)
        self.assertEqual(size((0, 0, 0, -3)), 9)
        self.assertEqual(size((1, 0, 0, 0)), 1)
        self.assertEqual(size((BIG, 0, -BIG, 1)), 2 * BIG * BIG + 1)

    def test_each_number_counts(self):
        for place in range(4):
            four = tuple(5 if place == other else 0 for other in range(4))
            self.assertEqual(size(four), 25)


class ProductTest(unittest.TestCase):
    def test_as_the_document_tells(self):
        self.assertEqual(product((1, 2, 3, 4), (5, 6, 7, 8)), (-60, 12, 30, 24))
        self.assertEqual(product((0, 1, 0, 0), (0, 0, 1, 0)), (0, 0, 0, 1))
        for one in FEW:
            for other in FEW:
                self.assertEqual(product(one, other), helpers.hamilton(one, other))

    def test_not_made_plain(self):
        self.assertEqual(product((2, 0, 0, 0), (-3, 0, 3, 0)), (-6, 0, 6, 0))


class ThenTest(unittest.TestCase):
    def test_is_the_other_one_times_the_first_one(self):
        self.assertEqual(then((1, 1, 0, 0), (1, 0, 1, 0)), (1, 1, 1, -1))
        self.assertEqual(then((1, 0, 1, 0), (1, 1, 0, 0)), (1, 1, 1, 1))
        for one in FEW + GREAT:
            for other in FEW + GREAT:
                told = then(one, other)
                self.assertTrue(is_plain_four(told))
                self.assertTrue(helpers.same_turn(told, helpers.hamilton(other, one)))

    def test_with_what_moves_nothing(self):
        for four in FEW + GREAT:
            for number in [1, 4, -1, -9, BIG]:
                still = (number, 0, 0, 0)
                self.assertEqual(then(four, still), plain(four))
                self.assertEqual(then(still, four), plain(four))

    def test_multiples_make_the_same(self):
        one, other = (1, 2, 0, -3), (0, 1, 1, 4)
        for number in MULTIPLES:
            self.assertEqual(then(times(number, one), other), then(one, other))
            self.assertEqual(then(one, times(number, other)), then(one, other))

    def test_put_together_from_the_first_or_from_the_last(self):
        chance = random.Random(5)
        for many in range(1, 9):
            row = [chance.choice(FEW) for place in range(many)]
            forth = reduce(then, row)
            from_the_last = row[-1]
            for four in row[-2::-1]:
                from_the_last = then(four, from_the_last)
            self.assertEqual(plain(forth), plain(from_the_last))

    def test_great_fours_put_together_and_taken_back(self):
        forth = reduce(then, GREAT)
        self.assertGreater(max(len(str(abs(number))) for number in forth), 300)
        for four in reversed(GREAT):
            forth = then(forth, back(four))
        self.assertEqual(forth, NOTHING)

    def test_told_fours_of_up_to_1500_figures(self):
        long_row = reduce(then, helpers.some_fours(6, 45, BIG))
        self.assertGreater(max(len(str(abs(number))) for number in long_row), 1200)
        self.assertEqual(then(long_row, back(long_row)), NOTHING)
        self.assertEqual(then(then(long_row, (1, 2, 3, 4)), (1, -2, -3, -4)), long_row)


class BackTest(unittest.TestCase):
    def test_plain(self):
        self.assertEqual(back((1, 2, 3, 4)), (1, -2, -3, -4))
        self.assertEqual(back((-2, 4, 0, 2)), (1, 2, 0, 1))
        self.assertEqual(back((0, 2, -4, 0)), (0, 1, -2, 0))
        self.assertEqual(back((0, 0, 0, -5)), (0, 0, 0, 1))
        self.assertEqual(back((-8, 0, 0, 0)), NOTHING)
        for four in FEW + GREAT:
            self.assertTrue(is_plain_four(back(four)))

    def test_takes_a_turn_back_either_way_round(self):
        for four in FEW + GREAT:
            self.assertEqual(then(four, back(four)), NOTHING)
            self.assertEqual(then(back(four), four), NOTHING)
            self.assertEqual(back(back(four)), plain(four))


class TurnedTest(unittest.TestCase):
    def test_the_document_s_example(self):
        self.assertEqual(turned((1, 1, 0, 0), as_point(0, 1, 0)), as_point(0, 0, 1))

    def test_quarter_turns_go_round_one_way(self):
        self.assertEqual(turned((1, 0, 1, 0), as_point(0, 0, 1)), as_point(1, 0, 0))
        self.assertEqual(turned((1, 0, 0, 1), as_point(1, 0, 0)), as_point(0, 1, 0))
        self.assertEqual(turned((1, 0, 0, 1), as_point(0, 1, 0)), as_point(-1, 0, 0))

    def test_as_the_three_rows_tell(self):
        for four in FEW + GREAT:
            for point in POINTS + GREAT_POINTS:
                told = turned(four, point)
                self.assertEqual(told, helpers.turned_by_document(four, point))
                self.assertIsInstance(told, tuple)
                self.assertTrue(all(is_fraction(number) for number in told))

    def test_nought_is_nought_over_one(self):
        self.assertEqual(turned((3, 4, 5, 6), as_point(0, 0, 0)), ((0, 1), (0, 1), (0, 1)))
        self.assertEqual(turned((1, 1, 1, 1), as_point(0, 0, Fraction(5, 7))), ((5, 7), (0, 1), (0, 1)))

    def test_in_lowest_terms(self):
        self.assertEqual(turned((2, 1, 0, 0), as_point(0, 5, 5)), as_point(0, -1, 7))
        self.assertEqual(turned((2, 1, 0, 0), as_point(0, 1, 0)), ((0, 1), (3, 5), (4, 5)))
        self.assertEqual(turned((2, 1, 0, 0), as_point(0, Fraction(1, 3), 0)), ((0, 1), (1, 5), (4, 15)))

    def test_great_bottoms(self):
        point = ((1, BIG), (-1, BIG - 1), (BIG, BIG - 2))
        self.assertEqual(turned(NOTHING, point), as_point(*[Fraction(*number) for number in point]))
        self.assertEqual(turned((BIG, BIG, 0, 0), point), as_point(
            Fraction(1, BIG), Fraction(-BIG, BIG - 2), Fraction(-1, BIG - 1)))

    def test_middle_stays(self):
        for four in FEW + GREAT:
            self.assertEqual(turned(four, as_point(0, 0, 0)), as_point(0, 0, 0))

    def test_one_and_then_another_is_what_then_tells(self):
        for one in FEW[:12] + GREAT[:3]:
            for other in FEW[10:20] + GREAT[3:6]:
                for point in POINTS[:3] + GREAT_POINTS[:1]:
                    self.assertEqual(turned(other, turned(one, point)), turned(then(one, other), point))

    def test_turned_back_is_the_point_again(self):
        for four in FEW + GREAT:
            for point in POINTS + GREAT_POINTS:
                self.assertEqual(turned(back(four), turned(four, point)), point)

    def test_a_multiple_turns_alike(self):
        for four in FEW[:10]:
            for number in MULTIPLES:
                for point in POINTS[:4]:
                    self.assertEqual(turned(times(number, four), point), turned(four, point))

    def test_told_points_handed_in_again(self):
        point = as_point(Fraction(1, 3), Fraction(-2, 7), 5)
        row = helpers.some_fours(7, 15, BIG)
        for four in row:
            point = turned(four, point)
        self.assertGreater(max(len(str(bottom)) for top, bottom in point), 800)
        for four in reversed(row):
            point = turned(back(four), point)
        self.assertEqual(point, as_point(Fraction(1, 3), Fraction(-2, 7), 5))


class AsHandedInTest(unittest.TestCase):
    def test_asked_again_the_same_is_told(self):
        for four in FEW[:5]:
            for ask in [plain, size, back]:
                self.assertEqual(ask(four), ask(four))
            self.assertEqual(then(four, (1, 2, 3, 4)), then(four, (1, 2, 3, 4)))
            self.assertEqual(turned(four, POINTS[0]), turned(four, POINTS[0]))


if __name__ == "__main__":
    unittest.main()
