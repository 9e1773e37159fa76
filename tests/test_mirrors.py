import itertools
import unittest
from fractions import Fraction
from math import gcd

import helpers
from helpers import BIG, NOTHING, as_point, is_fraction, is_plain_four, times

from hangrings.axes import axis
from hangrings.fours import plain, turned
from hangrings.mirrors import mirrored, other_mirror, two_mirrors

WAYS = helpers.small_ways(2)
GREAT_WAYS = [(BIG, -BIG, 7), (3, BIG - 1, 2 - BIG)]
POINTS = helpers.some_points(831, 8, 5) + [as_point(0, 0, 0), as_point(1, 0, 0)]


def along(way, other):
    return sum(one * two for one, two in zip(way, other))


def numbers(point):
    return [Fraction(*entry) for entry in point]


def is_upright_plain_way(way):
    return isinstance(way, tuple) and gcd(*way) == 1 and way > (0, 0, 0)


class MirroredTest(unittest.TestCase):
    def test_on_the_other_side_as_far_and_opposite(self):
        for way in WAYS + GREAT_WAYS:
            for point in POINTS:
                told = mirrored(way, point)
                self.assertTrue(all(is_fraction(entry) for entry in told))
                # Midway lies the plane, and the step is along the way.
                middle = [(one + two) / 2 for one, two in zip(numbers(point), numbers(told))]
                self.assertEqual(along(way, middle), 0)
                step = [two - one for one, two in zip(numbers(point), numbers(told))]
                self.assertTrue(all(step[i] * way[j] == step[j] * way[i] for i in range(3) for j in range(3)))
                self.assertEqual(mirrored(way, told), point)
                for number in [-1, 3, -BIG]:
                    self.assertEqual(mirrored(times(number, way), point), told)

    def test_points_on_the_plane_stay(self):
        for way in WAYS:
            for point in [as_point(way[1], -way[0], 0), as_point(Fraction(way[2], 3), 0, Fraction(-way[0], 3)), as_point(0, 0, 0)]:
                self.assertEqual(mirrored(way, point), point)

    def test_single_ones(self):
        self.assertEqual(mirrored((0, 0, 5), as_point(1, "1/2", 3)), as_point(1, "1/2", -3))
        self.assertEqual(mirrored((1, -1, 0), as_point(1, 2, 3)), as_point(2, 1, 3))
        self.assertEqual(mirrored((1, 1, 1), as_point(1, 0, 0)), as_point("1/3", "-2/3", "-2/3"))


class TwoMirrorsTest(unittest.TestCase):
    def test_the_one_and_then_the_other(self):
        for one, other in itertools.product(WAYS[::5] + GREAT_WAYS, WAYS[::3] + GREAT_WAYS):
            told = two_mirrors(one, other)
            self.assertTrue(is_plain_four(told))
            for point in POINTS[:3]:
                self.assertEqual(turned(told, point), mirrored(other, mirrored(one, point)))

    def test_two_that_are_one(self):
        for way in WAYS + GREAT_WAYS:
            for number in [1, -1, 4, -3]:
                self.assertEqual(two_mirrors(way, times(number, way)), NOTHING)

    def test_single_ones(self):
        self.assertEqual(two_mirrors((1, 0, 0), (0, 1, 0)), (0, 0, 0, 1))
        self.assertEqual(two_mirrors((1, 0, 0), (1, 1, 0)), (1, 0, 0, 1))
        self.assertEqual(two_mirrors((1, 1, 0), (1, 0, 0)), (1, 0, 0, -1))


class OtherMirrorTest(unittest.TestCase):
    def test_every_small_one(self):
        for four in helpers.small_fours(1) + helpers.some_fours(832, 60, 3):
            for way in WAYS[::4] + [(2, 0, 0), (-3, 3, 0)]:
                told = other_mirror(four, way)
                about = axis(four)
                if about is not None and along(about, way) != 0:
                    self.assertIsNone(told)
                else:
                    self.assertTrue(is_upright_plain_way(told))
                    self.assertEqual(two_mirrors(way, told), plain(four))

    def test_the_turn_that_moves_nothing(self):
        for way, told in [((0, -4, 6), (0, 2, -3)), ((1, 2, 3), (1, 2, 3)), ((-1, 5, 5), (1, -5, -5)), ((0, 0, -7), (0, 0, 1))]:
            for number in [1, -1, BIG]:
                self.assertEqual(other_mirror((number, 0, 0, 0), way), told)

    def test_single_ones(self):
        self.assertEqual(other_mirror((1, 0, 0, 1), (1, 0, 0)), (1, 1, 0))
        self.assertEqual(other_mirror((1, 0, 0, 1), (-2, 0, 0)), (1, 1, 0))
        self.assertEqual(other_mirror((0, 0, 0, 3), (1, 0, 0)), (0, 1, 0))
        self.assertIsNone(other_mirror((1, 0, 0, 1), (0, 0, 1)))
        self.assertIsNone(other_mirror((0, 0, 0, 1), (1, 0, 1)))
        self.assertIsNone(other_mirror((0, 1, 1, 1), (1, 1, -1)))

    def test_all_second_mirrors_are_found_again(self):
        ways = [way for way in WAYS + GREAT_WAYS if is_upright_plain_way(way)]
        for one in WAYS[::6] + GREAT_WAYS:
            for other in ways:
                self.assertEqual(other_mirror(two_mirrors(one, other), one), other)
                self.assertEqual(other_mirror(times(-5, two_mirrors(one, times(-2, other))), times(-3, one)), other)

    def test_great_ones(self):
        four = tuple(10 ** 1490 + number for number in (1, 0, 3, 9))
        way = (four[2], -four[1], 0)
        told = other_mirror(four, way)
        self.assertEqual(two_mirrors(way, told), plain(four))


if __name__ == "__main__":
    unittest.main()
