import itertools
import random
import unittest
from fractions import Fraction

import helpers
from helpers import BIG, NOTHING, as_pair, as_point, is_fraction, is_plain_four, is_plain_setting, times

from hangrings.axes import about, axis, setting_about
from hangrings.fours import plain
from hangrings.motions import and_then, led_three, moved, screw_of, screwed, undone

MIDDLE = as_point(0, 0, 0)
NO_MOTION = (NOTHING, MIDDLE)
POINTS = helpers.some_points(801, 12, 5) + [MIDDLE, as_point(1, 0, 0), as_point(0, 0, -1)]


def some_motions(seed, many, most):
    return list(zip(helpers.some_fours(seed, many, most), helpers.some_points(seed + 1, many, most)))


MOTIONS = some_motions(802, 15, 3) + some_motions(804, 3, BIG) + [
    NO_MOTION, ((-3, 0, 0, 0), as_point(1, "1/2", 0)), ((0, 0, 5, 0), MIDDLE), ((0, -1, 0, 1), as_point(0, 0, "1/3")),
]


def added(one, other):
    return as_point(*[Fraction(*left) + Fraction(*right) for left, right in zip(one, other)])


def stretched(number, way):
    return as_point(*[Fraction(*number) * entry for entry in way])


def moved_by_document(motion, point):
    return added(helpers.turned_by_document(motion[0], point), motion[1])


def product(one, other):
    return sum(Fraction(*left) * Fraction(*right) for left, right in zip(one, other))


def square_between(one, other):
    return sum((Fraction(*left) - Fraction(*right)) ** 2 for left, right in zip(one, other))


def is_point(value):
    return isinstance(value, tuple) and len(value) == 3 and all(is_fraction(entry) for entry in value)


class MotionsTest(unittest.TestCase):
    def is_plain_motion(self, motion):
        self.assertIsInstance(motion, tuple)
        self.assertEqual(len(motion), 2)
        self.assertTrue(is_plain_four(motion[0]))
        self.assertTrue(is_point(motion[1]))

    def test_moved(self):
        for motion in MOTIONS:
            for point in POINTS:
                told = moved(motion, point)
                self.assertEqual(told, moved_by_document(motion, point))
                self.assertTrue(is_point(told))
        self.assertEqual(moved(((1, 1, 0, 0), as_point(1, 2, 3)), as_point(0, 1, 0)), as_point(1, 2, 4))

    def test_and_then(self):
        for one, other in itertools.product(MOTIONS, repeat=2):
            told = and_then(one, other)
            self.is_plain_motion(told)
            for point in POINTS[:3]:
                self.assertEqual(moved(told, point), moved_by_document(other, moved_by_document(one, point)))
        one, other = ((1, 1, 0, 0), as_point(1, 0, 0)), ((1, 0, 1, 0), as_point(0, 0, 2))
        self.assertEqual(and_then(one, other), ((1, 1, 1, -1), as_point(0, 0, 1)))
        self.assertEqual(and_then(other, one), ((1, 1, 1, 1), as_point(1, -2, 0)))

    def test_three_put_together_either_way(self):
        chance = random.Random(806)
        for number in range(100):
            one, other, third = [chance.choice(MOTIONS) for place in range(3)]
            self.assertEqual(and_then(and_then(one, other), third), and_then(one, and_then(other, third)))

    def test_undone(self):
        for motion in MOTIONS:
            told = undone(motion)
            self.is_plain_motion(told)
            self.assertEqual(and_then(motion, told), NO_MOTION)
            self.assertEqual(and_then(told, motion), NO_MOTION)
            self.assertEqual(undone(told), (plain(motion[0]), motion[1]))
            for point in POINTS[:4]:
                self.assertEqual(moved(told, moved(motion, point)), point)
        self.assertEqual(undone(((1, 1, 0, 0), as_point(1, 2, 3))), ((1, -1, 0, 0), as_point(-1, -3, 2)))

    def test_multiples_of_fours_are_one_motion(self):
        for motion in MOTIONS:
            for number in [-1, 2, -6, BIG]:
                other = (times(number, motion[0]), motion[1])
                self.assertEqual(moved(other, POINTS[0]), moved(motion, POINTS[0]))
                self.assertEqual(undone(other), undone(motion))
                self.assertEqual(and_then(other, MOTIONS[0]), and_then(motion, MOTIONS[0]))
                self.assertEqual(and_then(MOTIONS[0], other), and_then(MOTIONS[0], motion))
                self.assertEqual(screw_of(other), screw_of(motion))

    def test_what_is_told_is_handed_in_again(self):
        motion = some_motions(807, 1, BIG)[0]
        made = motion
        while max(len(str(entry)) for point in made[1] for entry in point) < 700:
            made = and_then(made, motion)
        self.assertEqual(and_then(undone(made), made), NO_MOTION)
        told = screw_of(made)
        self.assertEqual(screwed(*told[1:]), made)


class LedThreeTest(unittest.TestCase):
    def test_only(self):
        chance = random.Random(811)
        triples = [POINTS[place:place + 3] for place in range(10)]
        triples += [[as_point(0, 0, 0), as_point(1, 0, 0), as_point(0, 1, 0)], [as_point(1, 0, 0), as_point(0, 1, 0), as_point(0, 0, 1)],
                    [as_point(1, 1, 1), as_point(2, 1, 1), as_point(1, 1, 5)]]
        triples.append(helpers.some_points(812, 3, BIG))
        for motion in MOTIONS:
            for points in triples:
                others = [moved_by_document(motion, point) for point in points]
                told = led_three(points, others)
                self.assertEqual(told, ("only", (plain(motion[0]), motion[1])))
                kinds = [chance.choice([list, tuple]) for number in range(2)]
                self.assertEqual(led_three(kinds[0](points), kinds[1](others)), told)

    def test_every_turn_of_small_numbers(self):
        """Axes along, upright to and athwart the points' plane; half turns; turns that leave one point."""
        points = [as_point(0, 0, 0), as_point(2, 0, 0), as_point(1, 1, 0)]
        for four in helpers.small_plain_fours(2):
            motion = (four, as_point("1/2", 0, -1))
            self.assertEqual(led_three(points, [moved(motion, point) for point in points]), ("only", motion))

    def test_turned_over(self):
        points = [as_point(0, 0, 0), as_point(1, 0, 0), as_point(0, 1, 0)]
        self.assertEqual(led_three(points, [points[0], points[2], points[1]]), ("only", ((0, 1, 1, 0), MIDDLE)))
        self.assertEqual(led_three(points, points), ("only", NO_MOTION))
        self.assertEqual(led_three(points, [points[0], points[1], as_point(0, -1, 0)]), ("only", ((0, 1, 0, 0), MIDDLE)))

    def test_none(self):
        points = [as_point(0, 0, 0), as_point(3, 0, 0), as_point(0, 4, 0)]
        for others, told in [
            ([as_point(0, 0, 0), as_point(0, 3, 1), as_point(0, 4, 0)], ("none", 0, 1)),
            ([as_point(0, 0, 0), as_point(0, 4, 0), as_point(3, 0, 0)], ("none", 0, 1)),
            ([as_point(0, 0, 0), as_point(3, 0, 0), as_point(0, 5, 0)], ("none", 0, 2)),
            ([as_point(0, 0, 0), as_point(3, 0, 0), as_point(5, 0, 0)], ("none", 0, 2)),
            ([as_point(0, 0, 0), as_point(3, 0, 0), as_point(4, 0, 0)], ("none", 1, 2)),
            ([as_point(0, 0, 0), as_point(3, 0, 0), as_point(-4, 0, 0)], ("none", 1, 2)),
            ([as_point(1, 1, 1)] * 3, ("none", 0, 1)),
            ([as_point(0, 0, 0), as_point(3, 0, 0), as_point(0, 4, "1/1000000")], ("none", 0, 2)),
            ([as_point(0, 0, 0), as_point(3, 0, 0), as_point("12/5", "16/5", 0)], ("none", 1, 2)),
        ]:
            self.assertEqual(led_three(points, others), told)

    def test_the_first_two_places_that_differ(self):
        chance = random.Random(813)
        corners = [as_point(*row) for row in itertools.product((0, 1, 2), repeat=3)]
        seen = set()
        for number in range(1500):
            points = chance.sample(corners, 3)
            others = [chance.choice(corners) for place in range(3)]
            ways = [[Fraction(*b) - Fraction(*a) for a, b in zip(points[0], points[place])] for place in (1, 2)]
            if all(ways[0][i] * ways[1][j] == ways[0][j] * ways[1][i] for i in range(3) for j in range(3)):
                continue
            pairs = [(i, j) for i, j in [(0, 1), (0, 2), (1, 2)]
                     if square_between(points[i], points[j]) != square_between(others[i], others[j])]
            told = led_three(points, others)
            seen.add((told[0], len(pairs)))
            if pairs:
                self.assertEqual(told, ("none",) + pairs[0])
            else:
                self.assertEqual(told[0], "only")
                self.assertTrue(is_plain_four(told[1][0]))
                self.assertEqual([moved(told[1], point) for point in points], others)
        self.assertEqual(seen, {("only", 0), ("none", 1), ("none", 2), ("none", 3)})


class ScrewTest(unittest.TestCase):
    def check(self, motion):
        told = screw_of(motion)
        if axis(motion[0]) is None:
            self.assertEqual(told, ("slide", motion[1]))
            return
        word, way, foot, slide, setting = told
        self.assertEqual(word, "screw")
        self.assertEqual(way, axis(motion[0]))
        self.assertEqual(setting, setting_about(way, motion[0]))
        self.assertTrue(is_plain_setting(setting) and is_fraction(slide) and is_point(foot))
        # The line's point nearest to the middle, and others of the line, are led along it.
        self.assertEqual(product(foot, [(entry, 1) for entry in way]), 0)
        for number in [(0, 1), (1, 1), (-5, 3)]:
            point = added(foot, stretched(number, way))
            self.assertEqual(moved_by_document(motion, point), added(point, stretched(slide, way)))
            self.assertEqual(screwed(way, point, slide, setting), (plain(motion[0]), motion[1]))

    def test_screws(self):
        for motion in MOTIONS + some_motions(821, 60, 2) + some_motions(823, 4, 10 ** 200):
            self.check(motion)

    def test_half_turns_and_no_slide(self):
        for four in [(0, 1, 0, 0), (0, -2, 4, 6), (0, 0, 0, 7)]:
            for point in [MIDDLE, as_point(3, 0, 0), as_point(0, "1/2", -1)]:
                self.check((four, point))
        self.assertEqual(screw_of(((0, 0, 0, 1), as_point(2, 0, 0))), ("screw", (0, 0, 1), as_point(1, 0, 0), (0, 1), (1, 0)))
        self.assertEqual(screw_of(((1, 0, 0, 1), as_point(2, 0, 5))), ("screw", (0, 0, 1), as_point(1, 1, 0), (5, 1), (1, 1)))
        self.assertEqual(screw_of(((-1, 0, 0, 1), as_point(2, 0, 5))), ("screw", (0, 0, -1), as_point(1, -1, 0), (-5, 1), (1, 1)))
        self.assertEqual(screw_of(((1, 1, 1, 1), as_point(1, 1, 1))), ("screw", (1, 1, 1), MIDDLE, (1, 1), (1, 1)))
        self.assertEqual(screw_of(((2, 2, 2, 2), MIDDLE)), ("screw", (1, 1, 1), MIDDLE, (0, 1), (1, 1)))

    def test_slides(self):
        for number in [1, -1, 7, -BIG]:
            for point in POINTS:
                self.assertEqual(screw_of(((number, 0, 0, 0), point)), ("slide", point))

    def test_screwed(self):
        chance = random.Random(825)
        for number in range(200):
            way = chance.choice(helpers.small_ways(3))
            foot = chance.choice(POINTS)
            slide = as_pair(Fraction(chance.randint(-6, 6), chance.randint(1, 4)))
            setting = chance.choice([(1, 0), (0, 1), (0, -2), (-3, 0), (2, 4), (-3, 5), (4, -6), (1, 1), (BIG, 1)])
            told = screwed(way, foot, slide, setting)
            self.assertEqual(told[0], about(way, setting))
            self.assertTrue(is_point(told[1]))
            # The line through the foot is led along itself.
            for stretch in [(0, 1), (2, 3)]:
                point = added(foot, stretched(stretch, way))
                self.assertEqual(moved_by_document(told, point), added(point, stretched(slide, way)))
            # Any point of the line, and any multiple of the setting, are the same screw.
            self.assertEqual(screwed(way, added(foot, stretched((-7, 2), way)), slide, times(-3, setting)), told)
            # Turned about and twice as long: the setting and the slide are halved and turned about.
            half_slide = as_pair(Fraction(*slide) / -2)
            self.assertEqual(screwed(times(-2, way), foot, half_slide, (-setting[0], 2 * setting[1])), told)

    def test_single_screws(self):
        self.assertEqual(screwed((0, 0, 1), as_point(1, 0, 0), (3, 1), (1, 0)), ((0, 0, 0, 1), as_point(2, 0, 3)))
        self.assertEqual(screwed((0, 0, 2), as_point(1, 0, 0), (3, 1), (1, 2)), ((1, 0, 0, 1), as_point(1, -1, 6)))
        self.assertEqual(screwed((1, 2, 3), as_point(5, 5, 5), (1, 2), (0, 4)), (NOTHING, as_point("1/2", 1, "3/2")))


if __name__ == "__main__":
    unittest.main()
