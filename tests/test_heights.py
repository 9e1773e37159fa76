import random
import unittest
from fractions import Fraction

import helpers
from helpers import BIG, as_pair, as_point, is_fraction, is_plain_setting, times
from test_chains import SETTINGS, great_chain, places_by_document, some_chain

from hangrings.chains import Chain
from hangrings.errors import NoJoint
from hangrings.heights import height, heights

WAYS = helpers.small_ways(2)


def height_by_document(point, way):
    return as_pair(sum(Fraction(*entry) * number for entry, number in zip(point, way)))


def height_with(chain, joint, setting, way):
    joints = chain.joints()
    joints[joint] = joints[joint][:2] + (setting,)
    return height_by_document(places_by_document(joints)[-1], way)


def state(chain):
    """All that a chain answers, also with its deeds taken back and done again."""
    told = []
    for word in ["back", "again"]:
        other = chain.twin()
        for number in range(20):
            told.append((other.joints(), other.stands(), other.tip()))
            try:
                getattr(other, word)()
            except Exception as error:
                told.append(error.__class__)
    return told


class HeightTest(unittest.TestCase):
    def test_single_ones(self):
        self.assertEqual(height(as_point(1, 2, 3), (0, 0, 1)), (3, 1))
        self.assertEqual(height(as_point("1/2", "-1/3", 5), (2, 3, 0)), (0, 1))
        self.assertEqual(height(as_point("1/2", "1/3", 0), (-1, -1, 7)), (-5, 6))
        self.assertEqual(height(as_point(0, 0, 0), (5, 5, 5)), (0, 1))
        self.assertEqual(height(as_point("1/4", 0, 0), (2, 0, 0)), (1, 2))

    def test_as_the_document_tells(self):
        points = helpers.some_points(731, 20, 6) + helpers.some_points(732, 5, BIG) + helpers.some_points(733, 2, 10 ** 1000 - 1)
        for point in points:
            for way in WAYS[::9] + [(BIG, -BIG, 1)]:
                told = height(point, way)
                self.assertEqual(told, height_by_document(point, way))
                self.assertTrue(is_fraction(told))


class HeightsTest(unittest.TestCase):
    def test_every_small_setting(self):
        seen = set()
        for seed in range(60):
            chance = random.Random(740 + seed)
            many = chance.randint(1, 4)
            chain = some_chain(seed, many)
            joint = chance.randrange(many)
            way = chance.choice(WAYS)
            all_heights = [height_with(chain, joint, setting, way) for setting in SETTINGS]
            for fraction in all_heights[::3] + [(0, 1), (1, 2), (1000, 1)]:
                told = heights(chain, joint, way, fraction)
                seen.add((told[0], len(told[1]) if told[0] == "at" else 0))
                self.check(chain, joint, way, fraction, told)
                hit = [setting for setting, found in zip(SETTINGS, all_heights) if found == fraction]
                if told == ("any",):
                    self.assertEqual(hit, SETTINGS)
                else:
                    self.assertEqual(hit, [setting for setting in SETTINGS if told[0] == "at" and setting in told[1]])
                # Whatever the joint's own setting is.
                other = chain.twin()
                other.bend(joint, chance.choice(SETTINGS))
                self.assertEqual(heights(other, joint, way, fraction), told)
        self.assertLessEqual({("at", 1), ("at", 2), ("none", 0)}, seen)

    def check(self, chain, joint, way, fraction, told):
        self.assertIsInstance(told, tuple)
        if told[0] != "at":
            self.assertIn(told, [("any",), ("none",)])
            return
        self.assertEqual(len(told), 2)
        self.assertIsInstance(told[1], list)
        self.assertIn(len(told[1]), (1, 2))
        self.assertEqual(told[1], sorted(set(told[1])))
        for setting in told[1]:
            self.assertTrue(is_plain_setting(setting))
            twin = chain.twin()
            twin.bend(joint, setting)
            self.assertEqual(height(twin.tip(), way), fraction)

    def test_single_ones(self):
        chain = Chain()
        chain.add((0, 0, 1), as_point(5, 0, 2), (3, 7))
        x, y, z = (1, 0, 0), (0, 1, 0), (0, 0, 1)
        for way, fraction, told in [
            (x, (5, 1), ("at", [(0, 1)])), (x, (-5, 1), ("at", [(1, 0)])), (x, (0, 1), ("at", [(-1, 1), (1, 1)])),
            (x, (3, 1), ("at", [(-1, 2), (1, 2)])), (x, (-3, 1), ("at", [(-2, 1), (2, 1)])), (x, (4, 1), ("at", [(-1, 3), (1, 3)])),
            (x, (1, 1), ("none",)), (x, (6, 1), ("none",)), (x, (-6, 1), ("none",)), (y, (0, 1), ("at", [(0, 1), (1, 0)])),
            (y, (5, 1), ("at", [(1, 1)])), (y, (-5, 1), ("at", [(-1, 1)])), (y, (4, 1), ("at", [(1, 2), (2, 1)])),
            (z, (2, 1), ("any",)), (z, (0, 1), ("none",)), (z, (1, 2), ("none",)), ((0, 0, -3), (-6, 1), ("any",)),
            ((2, 0, 1), (12, 1), ("at", [(0, 1)])), ((1, 1, 0), (5, 1), ("at", [(0, 1), (1, 1)])), ((3, 4, 0), (-15, 1), ("at", [(-3, 4), (1, 0)])),
            (x, (5 * BIG - 1, BIG), ("none",)),
        ]:
            self.assertEqual(heights(chain, 0, way, fraction), told, (way, fraction))

    def test_half_a_turn_among_those_told(self):
        for seed in range(20):
            chain = some_chain(seed, 3)
            for joint in range(3):
                for way in WAYS[::17]:
                    fraction = height_with(chain, joint, (1, 0), way)
                    told = heights(chain, joint, way, fraction)
                    self.check(chain, joint, way, fraction, told)
                    self.assertTrue(told == ("any",) or (1, 0) in told[1])
                    fraction = height_with(chain, joint, (0, 1), way)
                    told = heights(chain, joint, way, fraction)
                    self.check(chain, joint, way, fraction, told)
                    self.assertTrue(told == ("any",) or (0, 1) in told[1])

    def test_any(self):
        chain = Chain()
        chain.add((1, 2, 3), as_point(2, 4, 6), (1, 5))
        for way in WAYS[::7]:
            self.assertEqual(heights(chain, 0, way, height(chain.tip(), way)), ("any",))
            self.assertEqual(heights(chain, 0, way, (1, 7)), ("none",))
        # The tip lies at the first joint's own place, or the told way is along its axis.
        chain = Chain()
        chain.add((0, 1, 0), as_point(1, 0, 0), (1, 3))
        chain.add((0, 0, 1), as_point(1, 0, 0), (1, 0))
        self.assertEqual(heights(chain, 0, (5, 1, 2), (0, 1)), ("any",))
        chain.bend(1, (1, 2))
        self.assertEqual(heights(chain, 0, (0, -2, 0), (-8, 5)), ("any",))
        self.assertEqual(heights(chain, 0, (0, -2, 0), (8, 5)), ("none",))

    def test_ways_that_are_not_plain(self):
        chain = some_chain(3, 4)
        for joint in range(4):
            one = heights(chain, joint, (1, 2, -2), height(chain.tip(), (1, 2, -2)))
            for number in [2, -1, -6]:
                way = times(number, (1, 2, -2))
                self.assertEqual(heights(chain, joint, way, height(chain.tip(), way)), one)

    def test_no_joint(self):
        for many in range(5):
            chain = some_chain(5, many)
            before = state(chain)
            for joint in [-1, many, many + 1, -many - 1, -many, BIG, -BIG]:
                if not 0 <= joint < many:
                    with self.assertRaises(NoJoint):
                        heights(chain, joint, (1, 0, 0), (0, 1))
            self.assertEqual(state(chain), before)

    def test_the_chain_stays_as_it_is(self):
        chain = some_chain(6, 4)
        chain.bend(2, (5, 7))
        chain.off()
        chain.back()
        chain.back()
        before = state(chain)
        for joint in range(4):
            for fraction in [(0, 1), (1, 3), height(chain.tip(), (1, 1, 0))]:
                told = heights(chain, joint, (1, 1, 0), fraction)
                again = heights(chain, joint, (1, 1, 0), fraction)
                self.assertEqual(told, again)
                if told[0] == "at":
                    again[1].append("other")
                    self.assertEqual(heights(chain, joint, (1, 1, 0), fraction), told)
        self.assertEqual(state(chain), before)

    def test_great_ones(self):
        chain = great_chain(751, 4)
        way = (BIG, 3 - BIG, 7)
        for joint in range(4):
            for setting in [chain.joints()[joint][2], (BIG - 4, 5 - BIG), (1, 0)]:
                twin = chain.twin()
                twin.bend(joint, setting)
                fraction = height(twin.tip(), way)
                told = heights(chain, joint, way, fraction)
                self.check(chain, joint, way, fraction, told)
                self.assertIn(twin.joints()[joint][2], told[1])
            self.assertEqual(heights(chain, joint, way, (10 ** 249 + 1, 10 ** 250 - 3)), ("none",))

    def test_fractions_of_many_figures(self):
        chain = Chain()
        chain.add((0, 0, 1), as_point(1, 0, 0), (0, 1))
        k, l = 10 ** 60 + 7, 3 * 10 ** 61 + 1
        fraction = as_pair(Fraction(l * l - k * k, l * l + k * k))
        self.assertEqual(heights(chain, 0, (1, 0, 0), fraction), ("at", [(-k, l), (k, l)]))
        near = as_pair(Fraction(*fraction) + Fraction(1, 10 ** 125))
        self.assertEqual(heights(chain, 0, (1, 0, 0), near), ("none",))
        k, l = 10 ** 124 + 9, 3 * 10 ** 124 + 2
        fraction = as_pair(Fraction(2 * k * l, l * l + k * k))
        self.assertEqual(max(len(str(entry)) for entry in fraction), 250)
        self.assertEqual(heights(chain, 0, (0, 1, 0), fraction), ("at", sorted([(k, l), (l, k)])))

    def test_settings_of_many_figures(self):
        chain = some_chain(8, 3)
        for joint in range(3):
            chain.bend(joint, (10 ** 1490 + joint, 10 ** 1489 + 7))
        for joint in range(3):
            fraction = height(chain.tip(), (1, 2, 3))
            self.assertIn(chain.joints()[joint][2], heights(chain, joint, (1, 2, 3), fraction)[1])


if __name__ == "__main__":
    unittest.main()
