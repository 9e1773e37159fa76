import itertools
import random
import unittest
from functools import reduce
from math import isqrt

import helpers
from helpers import BIG, NOTHING, hamilton, is_plain_four, is_plain_setting, is_whole, times

from hangrings.axes import about
from hangrings.errors import NoHanger
from hangrings.fours import back, plain, then
from hangrings.hangers import hung, settings_of

HANGERS = ["xyx", "xyz", "xzx", "xzy", "yxy", "yxz", "yzx", "yzy", "zxy", "zxz", "zyx", "zyz"]
NO_HANGERS = [
    "", "x", "xy", "zz", "xyzx", "xyxy", "xyzxyz", "xxy", "xyy", "xxx", "yyz", "zyy", "abc", "xya", "axy", "xwz",
    "XYZ", "Xyz", "xYz", "xyZ", " xy", "xy ", "x y", "   ", " xyz", "xyz ", "xyz\n", "x,y", "123", "~!x",
]
WAYS = {"x": (1, 0, 0), "y": (0, 1, 0), "z": (0, 0, 1)}
ROUND = ["xyz", "yzx", "zxy"]
SMALL = helpers.small_plain_settings(3)
FEW = helpers.small_plain_fours(1) + helpers.some_fours(41, 60, 9)


def sign_of(hanger):
    """E of point 12, for hangers of three unlike letters."""
    return 1 if hanger in ROUND else -1


def number_by_document(hanger, four):
    a, b = hanger[0], hanger[1]
    (third,) = set("xyz") - {a, b}
    numbers = plain(four)
    if hanger[0] != hanger[2]:
        other = {"x": 0, "y": 0, "z": 0}
        other[b] = -sign_of(hanger)
        numbers = hamilton(numbers, (1, other["x"], other["y"], other["z"]))
    at = dict(zip("wxyz", numbers))
    return (at["w"] ** 2 + at[a] ** 2) * (at[b] ** 2 + at[third] ** 2)


def is_square(number):
    return isqrt(number) ** 2 == number


def in_family(told, settings):
    """Whether three settings are of a told lock, by point 12's words."""
    word, middle, with_word, setting = told
    first, between, last = settings
    by_last = about(WAYS["x"], last)
    if with_word == "against":
        by_last = back(by_last)
    made = then(about(WAYS["x"], first), by_last)
    return between == middle and made == about(WAYS["x"], setting)


class HungTest(unittest.TestCase):
    def test_of_single_ones(self):
        self.assertEqual(hung("xyz", ((0, 1), (0, 1), (0, 1))), NOTHING)
        self.assertEqual(hung("xyz", ((1, 1), (0, 1), (0, 1))), (1, 1, 0, 0))
        self.assertEqual(hung("xyz", ((0, 1), (1, 2), (0, 1))), (2, 0, 1, 0))
        self.assertEqual(hung("xyz", ((0, 1), (0, 1), (1, 0))), (0, 0, 0, 1))
        self.assertEqual(hung("xyz", ((1, 1), (1, 1), (0, 1))), (1, 1, 1, 1))
        self.assertEqual(hung("yxz", ((1, 1), (1, 1), (0, 1))), (1, 1, 1, -1))

    def test_last_then_middle_then_first(self):
        chance = random.Random(42)
        for hanger in HANGERS:
            for number in range(40):
                settings = tuple((chance.randint(-9, 9), chance.choice([-3, -2, 1, 2, 5])) for place in range(3))
                fours = []
                for letter, (k, l) in zip(hanger, settings):
                    fours.append((l,) + times(k, WAYS[letter]))
                told = hung(hanger, settings)
                self.assertTrue(is_plain_four(told))
                self.assertTrue(helpers.same_turn(told, hamilton(hamilton(fours[0], fours[1]), fours[2])))

    def test_settings_that_are_not_plain(self):
        for hanger in HANGERS:
            self.assertEqual(
                hung(hanger, ((-2, 4), (5, 0), (3, -3))), hung(hanger, ((-1, 2), (1, 0), (-1, 1))))

    def test_great_settings(self):
        told = hung("zxz", ((BIG, 1), (0, -BIG), (1, BIG)))
        self.assertEqual(told, (0, 0, 0, 1))


class NoHangerTest(unittest.TestCase):
    def test_refused_by_both(self):
        for text in NO_HANGERS:
            with self.assertRaises(NoHanger):
                hung(text, ((0, 1), (0, 1), (0, 1)))
            with self.assertRaises(NoHanger):
                settings_of(text, (1, 2, 3, 4))
            with self.assertRaises(NoHanger):
                settings_of(text, NOTHING)

    def test_just_twelve_of_all_short_texts(self):
        taken = []
        for length in range(5):
            for letters in itertools.product("wxyzX ", repeat=length):
                text = "".join(letters)
                try:
                    settings_of(text, (1, 2, 3, 4))
                    taken.append(text)
                except NoHanger:
                    pass
        self.assertEqual(sorted(taken), HANGERS)

    def test_a_long_text(self):
        with self.assertRaises(NoHanger):
            settings_of("xyz" * 10000, NOTHING)


class SettingsOfTest(unittest.TestCase):
    def check(self, hanger, four):
        told = settings_of(hanger, four)
        number = number_by_document(hanger, four)
        self.assertIsInstance(told, tuple)
        if number == 0:
            self.check_lock(hanger, four, told)
        elif is_square(number):
            self.check_set(hanger, four, told)
        else:
            self.assertEqual(told, ("none", number))
            self.assertTrue(is_whole(told[1]))
        return told

    def check_set(self, hanger, four, told):
        word, one, other = told
        self.assertEqual(word, "set")
        self.assertLess(one, other)
        for settings in [one, other]:
            self.assertIsInstance(settings, tuple)
            self.assertEqual(len(settings), 3)
            self.assertTrue(all(is_plain_setting(setting) for setting in settings))
            self.assertEqual(hung(hanger, settings), plain(four))

    def check_lock(self, hanger, four, told):
        word, middle, with_word, setting = told
        self.assertEqual(word, "lock")
        if hanger[0] == hanger[2]:
            middles = {"with": (0, 1), "against": (1, 0)}
        else:
            middles = {"with": (sign_of(hanger), 1), "against": (-sign_of(hanger), 1)}
        self.assertEqual(middle, middles[with_word])
        self.assertTrue(is_plain_setting(setting))
        self.assertEqual(hung(hanger, (setting, middle, (0, 1))), plain(four))

    def test_of_small_and_some_fours(self):
        words = {}
        for hanger in HANGERS:
            for four in FEW:
                told = self.check(hanger, four)
                words.setdefault(hanger, set()).add(told[0])
        self.assertEqual(words, {hanger: {"set", "lock", "none"} for hanger in HANGERS})

    def test_of_single_ones(self):
        self.assertEqual(settings_of("xyx", NOTHING), ("lock", (0, 1), "with", (0, 1)))
        self.assertEqual(settings_of("xyx", (3, 5, 0, 0)), ("lock", (0, 1), "with", (5, 3)))
        self.assertEqual(settings_of("xyx", (0, 0, 2, 3)), ("lock", (1, 0), "against", (3, 2)))
        self.assertEqual(settings_of("xzx", (0, 0, 3, 2)), ("lock", (1, 0), "against", (-3, 2)))
        self.assertEqual(settings_of("xyz", NOTHING), ("set", ((0, 1), (0, 1), (0, 1)), ((1, 0), (1, 0), (1, 0))))
        self.assertEqual(settings_of("xyz", (1, 0, 1, 0)), ("lock", (1, 1), "with", (0, 1)))
        self.assertEqual(settings_of("xyz", (1, 0, -1, 0)), ("lock", (-1, 1), "against", (0, 1)))
        self.assertEqual(settings_of("zyx", (1, 0, -1, 0)), ("lock", (-1, 1), "with", (0, 1)))
        self.assertEqual(settings_of("xyx", (1, 1, 1, 0)), ("none", 2))
        self.assertEqual(settings_of("xyx", (5, 5, 5, 0)), ("none", 2))
        self.assertEqual(settings_of("xyz", (1, 1, 1, 0)), ("none", 5))
        self.assertEqual(settings_of("zyx", (1, 1, 1, 0)), ("none", 5))

    def test_first_that_needs_half_a_turn(self):
        settings = ((1, 2), (2, 3), (1, 0))
        for hanger in HANGERS:
            self.assertIn(settings, settings_of(hanger, hung(hanger, settings)))

    def test_multiples_are_told_the_same(self):
        for hanger in HANGERS:
            for four in FEW[::4]:
                for number in [-1, 2, -3, 10 ** 25]:
                    self.assertEqual(settings_of(hanger, times(number, four)), settings_of(hanger, four))

    def test_no_other_small_settings_make_it(self):
        for hanger in HANGERS:
            made = {}
            for settings in itertools.product(SMALL, repeat=3):
                made.setdefault(hung(hanger, settings), []).append(settings)
            words = set()
            for four, makers in made.items():
                told = self.check(hanger, four)
                if told[0] == "lock":
                    words.add(told[2])
                    family = [(first, told[1], last) for first, last in itertools.product(SMALL, repeat=2)]
                    self.assertTrue(all(in_family(told, settings) for settings in makers))
                    for settings in family:
                        self.assertEqual(in_family(told, settings), hung(hanger, settings) == four)
                else:
                    self.assertEqual(told[0], "set")
                    self.assertLessEqual(set(makers), set(told[1:]))
            self.assertEqual(words, {"with", "against"})

    def test_none_is_made_by_no_small_settings(self):
        for hanger in ["xyx", "zxy", "yxz"]:
            made = {hung(hanger, settings) for settings in itertools.product(SMALL, repeat=3)}
            for four in FEW:
                if settings_of(hanger, four)[0] == "none":
                    self.assertNotIn(plain(four), made)

    def test_great_settings_are_found_again(self):
        chance = random.Random(43)
        for hanger in HANGERS:
            for number in range(5):
                settings = tuple((chance.randint(-BIG, BIG), 1 + 2 * chance.randint(1, 9)) for place in range(3))
                four = hung(hanger, settings)
                told = self.check(hanger, four)
                lowest = tuple(tuple(n // helpers.gcd(*pair) for n in pair) for pair in settings)
                self.assertIn(lowest, told)

    def test_great_fours(self):
        for hanger in HANGERS:
            for four in helpers.some_fours(44, 5, BIG):
                self.assertEqual(self.check(hanger, four)[0], "none")
            for four in [(BIG, 1, 0, 0), (0, 0, BIG, 7), (BIG, 0, -BIG, 0), (0, BIG, 0, 1 - BIG)]:
                self.check(hanger, four)

    def test_told_fours_of_many_figures(self):
        row = [hung("xyz", ((BIG - n, 7), (n, BIG), (BIG, n + 1))) for n in range(3, 14)]
        four = reduce(then, row)
        self.assertGreater(max(abs(number) for number in four), 10 ** 900)
        for hanger in HANGERS:
            self.check(hanger, four)
        long_setting = (10 ** 1499 + 7, 10 ** 1498 - 1)
        settings = ((3, 2), long_setting, (-5, 4))
        self.assertIn(settings, settings_of("zxz", hung("zxz", settings)))


if __name__ == "__main__":
    unittest.main()
