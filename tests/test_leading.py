import random
import unittest
from fractions import Fraction
from functools import reduce
from math import gcd, isqrt

import helpers
from helpers import BIG, NOTHING, is_plain_four, times

from hangrings.axes import about, rest
from hangrings.fours import plain, then
from hangrings.leading import led, led_both, leads, size_of

SMALL = helpers.small_plain_fours(2)
SETTINGS = helpers.small_plain_settings(3)


def image(four, way):
    """A way, in general not plain, that the way is led to by the four's turn."""
    point = helpers.turned_by_document(four, tuple((number, 1) for number in way))
    bottom = reduce(lambda one, other: one * other // gcd(one, other), [entry[1] for entry in point])
    return tuple(top * bottom // below for top, below in point)


def leads_by_document(one, other, four):
    reached = [Fraction(*entry) for entry in helpers.turned_by_document(four, tuple((number, 1) for number in one))]
    place = [number for number in range(3) if other[number]][0]
    stretch = reached[place] / other[place]
    return stretch > 0 and all(a == stretch * b for a, b in zip(reached, other))


def are_along(one, other):
    return all(one[i] * other[j] == one[j] * other[i] for i in range(3) for j in range(i))


def is_square(number):
    return isqrt(number) ** 2 == number


def dot(one, other):
    return sum(a * b for a, b in zip(one, other))


class LeadsTest(unittest.TestCase):
    def test_size_of(self):
        self.assertEqual(size_of((1, 2, -2)), 9)
        self.assertEqual(size_of((0, 0, -5)), 25)
        self.assertEqual(size_of((BIG, -BIG, 1)), 2 * BIG * BIG + 1)

    def test_of_single_ones(self):
        self.assertIs(leads((0, 1, 0), (0, 0, 1), (1, 1, 0, 0)), True)
        self.assertIs(leads((0, 3, 0), (0, 0, 7), (-2, -2, 0, 0)), True)
        self.assertIs(leads((0, 1, 0), (0, 0, -1), (1, 1, 0, 0)), False)
        self.assertIs(leads((0, -1, 0), (0, 0, -1), (1, 1, 0, 0)), True)
        self.assertIs(leads((0, 1, 0), (0, 1, 0), (1, 1, 0, 0)), False)
        self.assertIs(leads((1, 2, 3), (2, 4, 6), NOTHING), True)
        self.assertIs(leads((1, 2, 3), (-1, -2, -3), NOTHING), False)
        self.assertIs(leads((1, 2, 3), (1, 2, 4), NOTHING), False)
        self.assertIs(leads((0, 1, 2), (1, 1, 2), NOTHING), False)

    def test_as_the_document_tells(self):
        ways = helpers.small_ways(2)[::3]
        seen = set()
        for one in ways:
            for four in SMALL[::9]:
                there = image(four, one)
                for other in [there, times(3, there), times(-1, there), times(-4, there)] + ways[::7]:
                    told = leads(one, other, four)
                    self.assertIs(told, leads_by_document(one, other, four))
                    seen.add(told)
        self.assertEqual(seen, {True, False})

    def test_great_ones(self):
        for four in helpers.some_fours(51, 5, BIG):
            one = (BIG, 7, 1 - BIG)
            there = image(four, one)
            self.assertIs(leads(one, there, four), True)
            self.assertIs(leads(times(5, one), there, times(-3, four)), True)
            self.assertIs(leads(one, times(-1, there), four), False)
            self.assertIs(leads(one, (there[0] + 1, there[1], there[2]), four), False)


class LedTest(unittest.TestCase):
    def check_led(self, one, other):
        word, four = led(one, other)
        self.assertEqual(word, "led")
        self.assertTrue(is_plain_four(four))
        self.assertTrue(leads_by_document(one, other, four), (one, other, four))
        # Every turn that leads the one to the other is this one and then one
        # about the other.
        far = Fraction(*rest(four))
        for setting in SETTINGS:
            self.assertLessEqual(Fraction(*rest(then(four, about(other, setting)))), far)

    def test_all_small_ways(self):
        ways = helpers.small_ways(2)
        for one in ways[::4] + [(1, 2, 2), (0, 2, 0), (0, 0, -1)]:
            for other in ways:
                number = dot(one, one) * dot(other, other)
                if is_square(number):
                    self.check_led(one, other)
                else:
                    self.assertEqual(led(one, other), ("none", number))

    def test_no_small_turn_leads_where_none_is_told(self):
        for one, other in [((1, 0, 0), (1, 1, 0)), ((1, 1, 1), (0, 2, 0)), ((1, 1, 0), (1, 1, 1)), ((2, 0, 0), (1, 1, 1))]:
            self.assertEqual(led(one, other)[0], "none")
            for four in SMALL:
                self.assertFalse(leads_by_document(one, other, four))

    def test_no_small_turn_has_a_greater_rest(self):
        for one, other in [((1, 2, 2), (3, 0, 0)), ((0, 3, 4), (0, 0, -1)), ((1, -1, 0), (0, 1, 1)), ((2, 1, 2), (-1, -2, -2))]:
            word, four = led(one, other)
            self.assertEqual(word, "led")
            for turn in helpers.small_plain_fours(3):
                if leads_by_document(one, other, turn):
                    self.assertLessEqual(Fraction(*rest(turn)), Fraction(*rest(four)))

    def test_ways_that_point_alike(self):
        for way in [(1, 0, 0), (0, -2, 0), (1, 1, 1), (3, -5, 7), (BIG, 1, -BIG)]:
            for number in [1, 2, BIG]:
                self.assertEqual(led(way, times(number, way)), ("led", NOTHING))
                self.assertEqual(led(times(number, way), way), ("led", NOTHING))

    def test_opposite_ways(self):
        for way in [(1, 0, 0), (0, 1, 0), (0, 0, 1), (0, 0, -4), (0, 2, 3), (3, -5, 7), (1, 0, 1), (BIG, 1, -BIG)]:
            for number in [-1, -3, -BIG]:
                self.check_led(way, times(number, way))
                self.assertEqual(rest(led(way, times(number, way))[1]), (0, 1))

    def test_none_tells_the_product_of_both_sizes(self):
        self.assertEqual(led((1, 0, 0), (1, 1, 0)), ("none", 2))
        self.assertEqual(led((1, 1, 1), (2, 4, 0)), ("none", 60))
        self.assertEqual(led((2, 2, 0), (3, 0, 0)), ("none", 72))

    def test_great_ones(self):
        for four in helpers.some_fours(52, 6, BIG):
            one = (BIG - 4, 12345, -BIG)
            self.check_led(one, image(four, one))
            self.check_led(times(BIG, one), times(3, image(four, one)))
            other = (1, 2, BIG - 1)
            self.assertEqual(led(one, other), ("none", dot(one, one) * dot(other, other)))

    def test_ways_of_many_figures(self):
        four = reduce(then, helpers.some_fours(53, 23, BIG))
        self.check_led((1, 2, 2), image(four, (1, 2, 2)))


class LedBothTest(unittest.TestCase):
    def test_the_only_turn(self):
        chance = random.Random(54)
        ways = helpers.small_ways(3)
        for four in SMALL[::3] + [NOTHING] + helpers.some_fours(55, 10, BIG):
            one, other = chance.sample(ways, 2)
            if are_along(one, other):
                continue
            third = times(chance.randint(1, 4), image(four, one))
            fourth = times(chance.randint(1, 4), image(four, other))
            told = led_both(one, other, third, fourth)
            self.assertEqual(told, ("only", plain(four)), (one, other, third, fourth))

    def test_half_a_turn_about_the_third_way_behind_the_swing(self):
        self.assertEqual(led_both((1, 0, 0), (0, 1, 0), (1, 0, 0), (0, -1, 0)), ("only", (0, 1, 0, 0)))
        self.assertEqual(led_both((0, 0, 1), (1, 2, 3), (0, 0, 2), (-1, -2, 3)), ("only", (0, 0, 0, 1)))
        self.assertEqual(led_both((1, 0, 0), (0, 1, 0), (-1, 0, 0), (0, 1, 0)), ("only", (0, 0, 1, 0)))
        self.assertEqual(led_both((1, 0, 0), (0, 1, 0), (-1, 0, 0), (0, -1, 0)), ("only", (0, 0, 0, 1)))

    def test_nothing_is_moved(self):
        self.assertEqual(led_both((1, 2, 3), (0, 1, 0), (2, 4, 6), (0, 5, 0)), ("only", NOTHING))

    def test_first_then_second_then_between(self):
        self.assertEqual(led_both((1, 0, 0), (0, 1, 0), (1, 1, 0), (0, 0, 1)), ("none", "first"))
        self.assertEqual(led_both((1, 0, 0), (0, 1, 0), (1, 1, 0), (0, 1, 1)), ("none", "first"))
        self.assertEqual(led_both((1, 0, 0), (0, 1, 0), (0, 0, 1), (0, 1, 1)), ("none", "second"))
        self.assertEqual(led_both((1, 0, 0), (0, 1, 0), (0, 0, 1), (0, 3, 4)), ("none", "between"))
        self.assertEqual(led_both((1, 0, 0), (1, 1, 0), (1, 0, 0), (-1, 1, 0)), ("none", "between"))
        self.assertEqual(led_both((1, 0, 0), (1, 2, 2), (1, 0, 0), (2, 1, 2)), ("none", "between"))
        # Here the ways between the ends are as long, but one is opposite.
        self.assertEqual(led_both((1, 0, 0), (3, 4, 0), (1, 0, 0), (-3, 4, 0)), ("none", "between"))

    def test_each_word_by_sizes_and_products(self):
        chance = random.Random(56)
        ways = helpers.small_ways(2)
        seen = set()
        while seen != {"first", "second", "between", "only"}:
            for number in range(4000):
                one, other, third, fourth = [chance.choice(ways) for place in range(4)]
                if are_along(one, other) or are_along(third, fourth):
                    continue
                told = led_both(one, other, third, fourth)
                first, second = dot(one, one) * dot(third, third), dot(other, other) * dot(fourth, fourth)
                if not is_square(first):
                    self.assertEqual(told, ("none", "first"))
                elif not is_square(second):
                    self.assertEqual(told, ("none", "second"))
                elif dot(one, other) * isqrt(first) * isqrt(second) != (
                    dot(third, fourth) * dot(one, one) * dot(other, other)
                ):
                    self.assertEqual(told, ("none", "between"))
                else:
                    self.assertEqual(told[0], "only")
                    self.assertTrue(is_plain_four(told[1]))
                    self.assertTrue(leads_by_document(one, third, told[1]))
                    self.assertTrue(leads_by_document(other, fourth, told[1]))
                seen.add(told[-1] if told[0] == "none" else told[0])

    def test_great_ones(self):
        one, other = (BIG, 1 - BIG, 3), (5, BIG, BIG - 2)
        for four in helpers.some_fours(57, 5, BIG):
            third, fourth = image(four, one), image(four, other)
            self.assertEqual(led_both(one, other, third, fourth), ("only", plain(four)))
            self.assertEqual(led_both(one, other, third, times(-1, fourth)), ("none", "between"))
            self.assertEqual(led_both(one, other, fourth, third)[0], "none")

    def test_ways_of_many_figures(self):
        four = reduce(then, helpers.some_fours(58, 23, BIG))
        third, fourth = image(four, (1, 2, 3)), image(four, (0, 1, -1))
        self.assertGreater(max(abs(number) for number in third), 10 ** 1300)
        self.assertEqual(led_both((1, 2, 3), (0, 1, -1), third, fourth), ("only", four))
        self.assertEqual(led_both(third, fourth, (1, 2, 3), (0, 1, -1))[0], "only")
        self.assertEqual(led_both((1, 2, 3), (0, 1, -1), third, times(-1, fourth)), ("none", "between"))


if __name__ == "__main__":
    unittest.main()
