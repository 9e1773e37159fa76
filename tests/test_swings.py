import unittest

import helpers
from helpers import BIG, NOTHING, is_plain_four, times

from hangrings.axes import about, axis, setting_about
from hangrings.fours import plain, then
from hangrings.swings import parted

WAYS = helpers.small_ways(2)[::3] + [(3, -6, 9), (0, 0, -4), (5, 0, 0)]
FEW = helpers.some_fours(31, 40, 6) + [NOTHING, (0, 1, 0, 0), (0, 0, 1, 0), (0, 0, 0, 1), (0, 1, 1, 0), (1, 1, 0, 0)]
GREAT = helpers.some_fours(32, 10, BIG)


def dot(one, other):
    return sum(left * right for left, right in zip(one, other))


class PartedTest(unittest.TestCase):
    def check(self, way, four):
        told = parted(way, four)
        self.assertIsInstance(told, tuple)
        w, x, y, z = four
        if w == 0 and dot(way, (x, y, z)) == 0:
            self.assertEqual(told, ("lock",))
            return
        word, swing, twist = told
        self.assertEqual(word, "parted")
        self.assertTrue(is_plain_four(swing))
        self.assertTrue(is_plain_four(twist))
        self.assertIsNotNone(setting_about(way, twist))
        if swing != NOTHING:
            self.assertEqual(dot(way, axis(swing)), 0)
        self.assertEqual(then(twist, swing), plain(four))

    def test_parted_as_told(self):
        for way in WAYS:
            for four in FEW:
                self.check(way, four)
        for four in GREAT:
            self.check((1, 2, -2), four)
            self.check((BIG, 1 - BIG, 8), four)

    def test_of_single_ones(self):
        self.assertEqual(parted((0, 0, 1), (1, 1, 1, 1)), ("parted", (1, 0, 1, 0), (1, 0, 0, 1)))
        self.assertEqual(parted((0, 0, 1), (1, 1, 1, -1)), ("parted", (1, 1, 0, 0), (1, 0, 0, -1)))
        self.assertEqual(parted((1, 0, 0), (1, 1, 0, 0)), ("parted", NOTHING, (1, 1, 0, 0)))
        self.assertEqual(parted((1, 0, 0), (1, 0, 1, 0)), ("parted", (1, 0, 1, 0), NOTHING))

    def test_the_turn_that_moves_nothing(self):
        for way in WAYS:
            for number in [1, -1, 8]:
                self.assertEqual(parted(way, (number, 0, 0, 0)), ("parted", NOTHING, NOTHING))

    def test_ways_that_are_not_plain_part_alike(self):
        for way in [(1, 0, 0), (0, 1, -1), (1, 2, 3)]:
            for four in FEW:
                for number in [2, -1, -7, BIG]:
                    self.assertEqual(parted(times(number, way), four), parted(way, four))

    def test_multiples_of_the_four_part_alike(self):
        for way in [(1, 0, 0), (2, 2, -1)]:
            for four in FEW:
                for number in [2, -1, -7, BIG]:
                    self.assertEqual(parted(way, times(number, four)), parted(way, four))

    def test_half_turns(self):
        self.assertEqual(parted((0, 0, 1), (0, 1, 0, 0)), ("lock",))
        self.assertEqual(parted((0, 0, -3), (0, -2, 5, 0)), ("lock",))
        self.assertEqual(parted((1, 2, 3), (0, 3, 0, -1)), ("lock",))
        self.assertEqual(parted((BIG, 1, 0), (0, 1, -BIG, 4)), ("lock",))
        self.assertEqual(parted((0, 0, 1), (0, 0, 0, 1)), ("parted", NOTHING, (0, 0, 0, 1)))
        self.assertEqual(parted((0, 0, 1), (0, 1, 0, 1)), ("parted", (1, 0, 1, 0), (0, 0, 0, 1)))
        self.assertEqual(parted((1, 2, 3), (0, 3, 0, -2))[0], "parted")

    def test_a_turn_without_a_part_along_the_way_is_no_lock(self):
        self.assertEqual(parted((0, 0, 1), (2, 1, 5, 0)), ("parted", (2, 1, 5, 0), NOTHING))

    def test_no_other_small_twist_does_it(self):
        settings = helpers.small_plain_settings(4)
        for way in [(1, 0, 0), (0, 1, -2), (1, -1, 1)]:
            for four in FEW:
                told = parted(way, four)
                for twist in [about(way, setting) for setting in settings]:
                    swing = then((twist[0],) + times(-1, twist[1:]), four)
                    is_swing = swing == NOTHING or dot(way, axis(swing)) == 0
                    self.assertEqual(is_swing, told == ("lock",) or told[1:] == (swing, twist))


if __name__ == "__main__":
    unittest.main()
