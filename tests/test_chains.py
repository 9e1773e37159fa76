import random
import unittest
from fractions import Fraction

import helpers
from helpers import BIG, NOTHING, as_point, is_fraction, is_plain_four, is_plain_setting, times

from hangrings.chains import Chain
from hangrings.errors import NoJoint, NoReach, TooMany

MIDDLE = as_point(0, 0, 0)
SETTINGS = helpers.small_plain_settings(3)


def plain_pair(setting):
    top, bottom = helpers.as_pair(Fraction(*setting)) if setting[1] else (1, 0)
    return (top, bottom)


def stands_by_document(joints):
    found = []
    ahead = NOTHING
    for (x, y, z), arm, (k, l) in joints:
        # The joint's turn is done first, so it stands on the right.
        ahead = helpers.hamilton(ahead, (l, k * x, k * y, k * z))
        found.append(ahead)
    return found


def places_by_document(joints):
    found = []
    ahead = [Fraction(0)] * 3
    for (way, arm, setting), stand in zip(joints, stands_by_document(joints)):
        led = [Fraction(*entry) for entry in helpers.turned_by_document(stand, arm)]
        ahead = [one + more for one, more in zip(ahead, led)]
        found.append(as_point(*ahead))
    return found


def some_joint(chance, most=4):
    way = chance.choice(helpers.small_ways(2))
    arm = as_point(*[Fraction(chance.randint(-most, most), chance.randint(1, most)) for place in range(3)])
    return (way, arm, chance.choice(SETTINGS))


def some_chain(seed, many):
    chance = random.Random(seed)
    chain = Chain()
    for number in range(many):
        chain.add(*some_joint(chance))
    return chain


def great_chain(seed, many):
    chance = random.Random(seed)
    chain = Chain()
    for number in range(many):
        way = tuple(chance.randint(1, BIG) for place in range(3))
        chain.add(way, helpers.some_points(seed + number, 1, BIG)[0], (chance.randint(-BIG, BIG), chance.randint(1, BIG)))
    return chain


def answers(chain):
    return (chain.joints(), chain.stands(), chain.places(), chain.tip())


class ToldTest(unittest.TestCase):
    def check(self, chain, joints):
        self.assertEqual(chain.joints(), joints)
        stands = stands_by_document(joints)
        self.assertEqual(len(chain.stands()), len(stands))
        for told, stand in zip(chain.stands(), stands):
            self.assertTrue(is_plain_four(told))
            self.assertTrue(helpers.same_turn(told, stand))
        places = places_by_document(joints)
        self.assertEqual(chain.places(), places)
        self.assertEqual(chain.tip(), places[-1] if places else MIDDLE)
        for place in chain.places() + [chain.tip()]:
            self.assertIsInstance(place, tuple)
            self.assertTrue(all(is_fraction(entry) for entry in place))

    def test_no_joint_at_first(self):
        chain = Chain()
        self.assertEqual(answers(chain), ([], [], [], MIDDLE))

    def test_single_joints(self):
        chain = Chain()
        self.assertIsNone(chain.add((0, 0, 1), as_point(1, 0, 0), (1, 1)))
        self.assertEqual(chain.stands(), [(1, 0, 0, 1)])
        self.assertEqual(chain.places(), [as_point(0, 1, 0)])
        chain.add((0, 0, 1), as_point(1, 0, 0), (1, 1))
        self.assertEqual(chain.stands(), [(1, 0, 0, 1), (0, 0, 0, 1)])
        self.assertEqual(chain.places(), [as_point(0, 1, 0), as_point(-1, 1, 0)])
        chain.add((1, 0, 0), as_point(0, "1/2", 0), (1, 1))
        self.assertEqual(chain.stands()[2], (0, 0, 1, 1))
        self.assertEqual(chain.tip(), as_point(-1, 1, "1/2"))

    def test_a_joint_s_turn_and_then_the_stand_ahead(self):
        chain = Chain()
        chain.add((1, 0, 0), MIDDLE, (1, 1))
        chain.add((0, 1, 0), MIDDLE, (1, 1))
        self.assertEqual(chain.stands(), [(1, 1, 0, 0), (1, 1, 1, 1)])

    def test_many_joints(self):
        for seed in range(30):
            chance = random.Random(seed)
            chain = Chain()
            joints = []
            for number in range(6):
                joints.append(some_joint(chance))
                chain.add(*joints[-1])
                self.check(chain, joints)
            while joints:
                place = chance.randrange(len(joints))
                setting = chance.choice(SETTINGS)
                self.assertIsNone(chain.bend(place, setting))
                joints[place] = joints[place][:2] + (setting,)
                self.check(chain, joints)
                self.assertIsNone(chain.off())
                joints.pop()
                self.check(chain, joints)

    def test_great_ones(self):
        chain = great_chain(201, 6)
        self.check(chain, chain.joints())

    def test_settings_are_made_plain_ways_and_arms_stay(self):
        chain = Chain()
        for handed, kept in [((2, 4), (1, 2)), ((3, -6), (-1, 2)), ((-5, 0), (1, 0)), ((0, -7), (0, 1)), ((6, 9), (2, 3))]:
            way, arm = (-4, 8, 0), as_point(2, "-4/3", 0)
            chain.add(way, arm, handed)
            self.assertEqual(chain.joints()[-1], (way, arm, kept))
            chain.bend(0, handed)
            self.assertEqual(chain.joints()[0], (way, arm, kept))
            self.assertEqual(plain_pair(handed), kept)

    def test_told_lists_are_the_asker_s_own(self):
        chain = some_chain(7, 4)
        before = answers(chain)
        for told in [chain.joints(), chain.stands(), chain.places()]:
            told.pop()
            told.append("other")
        self.assertEqual(answers(chain), before)
        told = chain.joints()
        chain.off()
        self.assertEqual(told, before[0])


class RefusedTest(unittest.TestCase):
    def refused(self, chain, error, deed, *handed):
        before = answers(chain)
        again = len(chain.gone)
        with self.assertRaises(error):
            getattr(chain, deed)(*handed)
        self.assertEqual(answers(chain), before)
        self.assertEqual(len(chain.gone), again)

    def test_too_many(self):
        chain = some_chain(8, 6)
        self.refused(chain, TooMany, "add", (1, 0, 0), MIDDLE, (0, 1))
        chain.off()
        chain.add((1, 0, 0), MIDDLE, (0, 1))
        self.refused(chain, TooMany, "add", (1, 0, 0), MIDDLE, (0, 1))
        self.assertEqual(len(chain.joints()), 6)

    def test_no_joint(self):
        for many in [0, 1, 3, 6]:
            chain = some_chain(9, many)
            for joint in [many, many + 1, -1, -many - 1, BIG, -BIG]:
                self.refused(chain, NoJoint, "bend", joint, (1, 2))
                self.refused(chain, NoJoint, "reach", joint, chain.tip())
                self.refused(chain, NoJoint, "lead", joint, chain.tip())
                self.refused(chain, NoJoint, "lead", joint, as_point(BIG, 0, 1))
        self.refused(Chain(), NoJoint, "off")

    def test_no_reach(self):
        chain = some_chain(10, 4)
        for joint in range(4):
            self.refused(chain, NoReach, "lead", joint, as_point(1000, 0, "1/7"))

    def test_refused_calls_keep_what_was_taken_back(self):
        chain = some_chain(11, 6)
        chain.off()
        chain.back()
        self.refused(chain, TooMany, "add", (1, 0, 0), MIDDLE, (0, 1))
        self.refused(chain, NoJoint, "bend", 6, (0, 1))
        self.refused(chain, NoReach, "lead", 0, as_point(1000, 0, 0))
        chain.again()
        self.assertEqual(len(chain.joints()), 5)


class ReachTest(unittest.TestCase):
    def tip_with(self, chain, joint, setting):
        joints = chain.joints()
        joints[joint] = joints[joint][:2] + (setting,)
        return places_by_document(joints)[-1]

    def test_the_one_setting_whatever_the_joint_s_own_is_now(self):
        for seed in range(40):
            chance = random.Random(300 + seed)
            chain = some_chain(seed, chance.randint(1, 6))
            joint = chance.randrange(len(chain.joints()))
            tips = [self.tip_with(chain, joint, setting) for setting in SETTINGS]
            fixed = len(set(tips)) == 1
            for setting, tip in zip(SETTINGS, tips):
                before = answers(chain)
                told = chain.reach(joint, tip)
                self.assertEqual(told, ("any",) if fixed else ("only", setting))
                self.assertEqual(answers(chain), before)
                chain.bend(joint, chance.choice(SETTINGS))
                self.assertEqual(chain.reach(joint, tip), told)

    def test_none(self):
        for seed in range(20):
            chain = some_chain(seed, 3)
            for joint in range(3):
                for point in helpers.some_points(400 + seed, 4, 5) + [MIDDLE]:
                    told = chain.reach(joint, point)
                    hit = [setting for setting in SETTINGS if self.tip_with(chain, joint, setting) == point]
                    if told == ("none",):
                        self.assertEqual(hit, [])
                    elif told[0] == "only":
                        self.assertEqual(self.tip_with(chain, joint, told[1]), point)

    def test_single_ones(self):
        chain = Chain()
        chain.add((0, 0, 2), as_point(5, 0, 1), (7, 3))
        self.assertEqual(chain.reach(0, as_point(5, 0, 1)), ("only", (0, 1)))
        self.assertEqual(chain.reach(0, as_point(-5, 0, 1)), ("only", (1, 0)))
        self.assertEqual(chain.reach(0, as_point(0, 5, 1)), ("only", (1, 2)))
        self.assertEqual(chain.reach(0, as_point(0, -5, 1)), ("only", (-1, 2)))
        self.assertEqual(chain.reach(0, as_point(3, 4, 1)), ("only", (1, 4)))
        # As far from the axis but not as high, as high but not as far, and
        # nearly there.
        self.assertEqual(chain.reach(0, as_point(3, 4, 2)), ("none",))
        self.assertEqual(chain.reach(0, as_point(3, 4, -1)), ("none",))
        self.assertEqual(chain.reach(0, as_point(4, 4, 1)), ("none",))
        self.assertEqual(chain.reach(0, as_point(0, 0, 1)), ("none",))
        self.assertEqual(chain.reach(0, as_point(Fraction(5) + Fraction(1, BIG), 0, 1)), ("none",))

    def test_any(self):
        chain = Chain()
        chain.add((1, 2, 3), as_point(2, 4, 6), (1, 5))
        self.assertEqual(chain.reach(0, as_point(2, 4, 6)), ("any",))
        self.assertEqual(chain.reach(0, as_point(2, 4, 5)), ("none",))
        self.assertEqual(chain.reach(0, as_point(-2, -4, -6)), ("none",))
        chain.bend(0, (1, 0))
        self.assertEqual(chain.reach(0, as_point(2, 4, 6)), ("any",))
        # A tip that lies in the joint's own place.
        chain.add((0, 1, 0), as_point(3, 0, 0), (1, 2))
        chain.add((0, 0, 1), as_point(-3, 0, 0), (0, 1))
        self.assertEqual(chain.reach(1, chain.tip()), ("any",))
        self.assertEqual(chain.reach(1, as_point(2, 4, 7)), ("none",))
        self.assertEqual(chain.reach(2, chain.tip()), ("only", (0, 1)))

    def test_great_ones(self):
        chain = great_chain(202, 6)
        tip = chain.tip()
        for joint in range(6):
            self.assertEqual(chain.reach(joint, tip), ("only", chain.joints()[joint][2]))
            setting = (BIG - joint, 3 - BIG)
            there = chain.twin()
            there.bend(joint, setting)
            self.assertEqual(chain.reach(joint, there.tip()), ("only", there.joints()[joint][2]))
            self.assertEqual(chain.reach(joint, helpers.some_points(joint, 1, 10 ** 900)[0]), ("none",))

    def test_settings_of_many_figures(self):
        chain = some_chain(203, 3)
        settings = [(10 ** 1490 + joint, 10 ** 1489 + 7) for joint in range(3)]
        for joint, setting in enumerate(settings):
            chain.bend(joint, setting)
        for joint, setting in enumerate(settings):
            told = chain.reach(joint, chain.tip())
            self.assertEqual(told, ("only", chain.joints()[joint][2]))
            self.assertTrue(is_plain_setting(told[1]))


class LeadTest(unittest.TestCase):
    def test_only(self):
        for seed in range(20):
            chance = random.Random(500 + seed)
            chain = some_chain(seed, 4)
            joint = chance.randrange(4)
            there = chain.twin()
            there.bend(joint, chance.choice(SETTINGS))
            if chain.reach(joint, there.tip())[0] == "any":
                continue
            self.assertIsNone(chain.lead(joint, there.tip()))
            self.assertEqual(answers(chain), answers(there))
            chain.back()
            self.assertEqual(answers(chain), answers(some_chain(seed, 4)))

    def test_any_leaves_the_setting_and_is_a_deed(self):
        chain = Chain()
        chain.add((1, 2, 3), as_point(2, 4, 6), (1, 5))
        chain.bend(0, (3, 4))
        self.assertIsNone(chain.lead(0, as_point(2, 4, 6)))
        self.assertEqual(chain.joints()[0][2], (3, 4))
        chain.back()
        self.assertEqual(chain.joints()[0][2], (3, 4))
        chain.back()
        self.assertEqual(chain.joints()[0][2], (1, 5))

    def test_leading_where_it_stands_is_a_deed(self):
        chain = Chain()
        chain.add((0, 0, 1), as_point(1, 0, 0), (1, 3))
        chain.lead(0, chain.tip())
        chain.back()
        self.assertEqual(len(chain.joints()), 1)
        chain.back()
        self.assertEqual(chain.joints(), [])

    def test_a_lead_is_no_plain_multiple(self):
        chain = Chain()
        chain.add(times(3, (0, 0, 1)), as_point("1/2", 0, 0), (0, 1))
        chain.lead(0, as_point(0, "1/2", 0))
        self.assertEqual(chain.joints()[0][2], (1, 3))


if __name__ == "__main__":
    unittest.main()
