import unittest
from functools import reduce
from math import isqrt

import helpers
from helpers import BIG, NOTHING, is_plain_four, times

from hangrings.axes import rest
from hangrings.fours import plain, size, then
from hangrings.halves import half

FEW = helpers.small_plain_fours(3)
GREAT = helpers.some_fours(41, 12, BIG)


def rest_is_less(one, other):
    return one[0] * other[1] < other[0] * one[1]


class HalfTest(unittest.TestCase):
    def test_of_single_ones(self):
        self.assertEqual(half((0, 1, 0, 0)), (1, 1, 0, 0))
        self.assertEqual(half((1, 1, 1, 1)), (3, 1, 1, 1))
        self.assertEqual(half((4, 3, 0, 0)), (3, 1, 0, 0))
        self.assertEqual(half((3, -4, 0, 0)), (2, -1, 0, 0))
        self.assertIsNone(half((1, 1, 0, 0)))
        self.assertIsNone(half((1, 1, 1, 0)))

    def test_the_turn_that_moves_nothing_is_its_own(self):
        for number in [1, -1, 2, -3, BIG]:
            self.assertEqual(half((number, 0, 0, 0)), NOTHING)

    def test_none_just_where_the_plain_size_is_no_square(self):
        seen = set()
        for four in FEW:
            is_square = isqrt(size(four)) ** 2 == size(four)
            told = half(four)
            self.assertEqual(told is not None, is_square, four)
            seen.add(is_square)
            if is_square:
                self.assertTrue(is_plain_four(told))
                self.assertEqual(then(told, told), four)
        self.assertEqual(seen, {True, False})

    def test_no_other_has_a_greater_rest_and_none_is_overlooked(self):
        found = {}
        for four in helpers.small_plain_fours(4):
            found.setdefault(then(four, four), []).append(four)
        for made, halves in found.items():
            told = half(made)
            for other in halves:
                self.assertFalse(rest_is_less(rest(told), rest(other)), (made, other))
                if rest(told) == rest(other) and made != NOTHING and other != told:
                    self.assertEqual(made[0], 0)
                    self.assertGreater(told[1:], (0, 0, 0))
                    self.assertLess(other[1:], (0, 0, 0))
        self.assertGreater(len(found), 500)

    def test_half_turns(self):
        self.assertEqual(half((0, -1, 0, 0)), (1, 1, 0, 0))
        self.assertEqual(half((0, 0, 0, -1)), (1, 0, 0, 1))
        self.assertEqual(half((0, 0, 3, -4)), (5, 0, 3, -4))
        self.assertEqual(half((0, 0, -3, 4)), (5, 0, 3, -4))
        self.assertEqual(half((0, 1, -2, -2)), (3, 1, -2, -2))
        self.assertEqual(half((0, -10, 20, 20)), (3, 1, -2, -2))
        self.assertIsNone(half((0, 1, 1, 0)))

    def test_multiples_have_the_same(self):
        for four in FEW[::11] + [(0, 2, -1, 2), (4, 0, -3, 0), (1, 1, -1, 1)]:
            for number in [2, -1, -2, 6, -BIG]:
                self.assertEqual(half(times(number, four)), half(four))
        # The size of a multiple may be a square where the plain one's isn't.
        self.assertIsNone(half((2, 2, 0, 0)))
        self.assertEqual(half((-2, 0, -2, 0)), None)

    def test_great_ones(self):
        for four in GREAT:
            made = then(four, four)
            told = half(made)
            self.assertEqual(then(told, told), made)
            expected = plain(four) if 2 * four[0] ** 2 > size(four) else None
            if expected is not None:
                self.assertEqual(told, expected)
            self.assertEqual(half(times(-7, made)), told)
        self.assertIsNone(half((BIG, 1, 0, 0)))

    def test_told_fours_of_many_figures(self):
        four = reduce(then, helpers.some_fours(42, 24, BIG))
        made = then(four, four)
        self.assertGreater(max(abs(number) for number in made), 10 ** 1400)
        told = half(made)
        self.assertEqual(then(told, told), made)
        self.assertFalse(rest_is_less(rest(told), rest(four)))


if __name__ == "__main__":
    unittest.main()
