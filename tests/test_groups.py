import copy
import itertools
import random
import unittest
from functools import reduce

import helpers
from helpers import BIG, NOTHING, as_point, is_plain_four, times

from hangrings.axes import comes_back
from hangrings.fours import back, plain, then, turned
from hangrings.groups import are_unlike, counts, group_of, images, is_group, stays, word_turn

CUBE = [(1, 1, 0, 0), (1, 0, 1, 0)]
# Makers of a group of each sort that there is, and how many turns it has.
MAKERS = [
    ([], 1), ([NOTHING], 1), ([(0, 1, 2, 3)], 2), ([(1, 1, 1, 1)], 3), ([(1, 0, 0, -1)], 4), ([(3, 1, 1, -1)], 6),
    ([(0, 1, 0, 0), (0, 0, 2, 1)], 4), ([(0, 1, -1, 0), (1, 1, 1, 1)], 6), ([(1, 0, 0, 1), (0, 1, 0, 0)], 8),
    ([(3, 1, 1, 1), (0, 1, -1, 0)], 12), ([(1, 1, 1, 1), (0, 1, 0, 0)], 12), (CUBE, 24),
]
# Here a generator alone, or only two together, or one of many, never comes back.
ENDLESS = [
    [(2, 1, 0, 0)], [NOTHING, (1, 2, 3, 4)], [(0, 1, 0, 0), (0, 3, 1, 0)], [(1, 1, 1, 1), (0, 1, 1, 1), (3, 0, 1, 0)],
    [(1, 1, 0, 0), (3, 1, 1, 1)], [(1, 1, 0, 0), (1, 0, 1, 0), (0, 1, 1, 1)], CUBE + [(1, 1, 1, 1), (0, 1, 0, 0), (0, 1, 1, 0), (5, 1, 0, 0)],
    [(0, 1, 0, 0), (0, 1, 1, 0), (0, 0, 1, 1), (0, 0, 1, -1), (0, 1, 0, 1), (0, 1, 1, 2)],
    [(0, 1, 0, 0), (0, 1, 1, 0), (0, 0, 1, 0), (0, 1, -1, 0), (1, 0, 0, 1), (0, 1, 1, 1)],
]


def conjugated(fours, four):
    return [then(then(back(four), turn), four) for turn in fours]


def turn_by_steps(fours, word):
    return reduce(then, [fours[place] for place in word], NOTHING)


def closure(fours):
    found = {NOTHING}
    edge = [NOTHING]
    while edge:
        made = {then(turn, four) for turn in edge for four in fours} - found
        found |= made
        edge = list(made)
        if len(found) > 24:
            return None
    return sorted(found)


class WordTurnTest(unittest.TestCase):
    def test_from_the_first_place_on(self):
        fours = [(1, 1, 0, 0), (1, 0, 1, 0), (-4, 2, 0, 0)]
        self.assertEqual(word_turn(fours, (0, 1)), then(fours[0], fours[1]))
        self.assertEqual(word_turn(fours, (1, 0)), then(fours[1], fours[0]))
        self.assertNotEqual(word_turn(fours, (0, 1)), word_turn(fours, (1, 0)))
        self.assertEqual(word_turn(fours, (2,)), (2, -1, 0, 0))

    def test_the_word_without_places_moves_nothing(self):
        for fours in [[], [(0, 1, 0, 0)], helpers.some_fours(61, 6, BIG)]:
            self.assertEqual(word_turn(fours, ()), NOTHING)

    def test_as_done_one_behind_the_other(self):
        chance = random.Random(62)
        for fours in [helpers.some_fours(63, 4, 5), helpers.some_fours(64, 6, BIG), [(-2, 0, 0, 0)]]:
            for length in range(1, 14):
                word = tuple(chance.randrange(len(fours)) for place in range(length))
                told = word_turn(fours, word)
                self.assertEqual(told, turn_by_steps(fours, word))
                self.assertTrue(is_plain_four(told))

    def test_long_words(self):
        self.assertEqual(word_turn(CUBE, (0, 1) * 3000), turn_by_steps(CUBE, (0, 1) * 3000))
        self.assertEqual(word_turn(CUBE, (0,) * 1001), CUBE[0])


class GroupOfTest(unittest.TestCase):
    def check_group(self, fours, many):
        word, turns = group_of(fours)
        self.assertEqual(word, "group")
        self.assertIsInstance(turns, list)
        self.assertEqual(len(turns), many)
        self.assertEqual(turns, closure(fours))
        self.assertTrue(all(is_plain_four(turn) for turn in turns))

    def check_endless(self, fours):
        word, words = group_of(fours)
        self.assertEqual(word, "endless")
        self.assertIsInstance(words, list)
        self.assertEqual(len(words), 25)
        for told in words:
            self.assertIsInstance(told, tuple)
            self.assertLessEqual(len(told), 24)
            self.assertTrue(all(place in range(len(fours)) for place in told))
        self.assertEqual(len({turn_by_steps(fours, told) for told in words}), 25)
        self.assertIs(are_unlike(fours, words), True)

    def test_of_no_fours(self):
        self.assertEqual(group_of([]), ("group", [NOTHING]))

    def test_groups_of_each_sort(self):
        for fours, many in MAKERS:
            self.check_group(fours, many)
            for four in [(1, 2, 3, 4), (0, 1, -1, 3), (BIG, 1, -5, BIG - 3)]:
                self.check_group(conjugated(fours, four), many)

    def test_fours_that_come_twice_or_as_multiples(self):
        for fours, many in MAKERS:
            self.check_group((fours * 3)[:6], many)
            self.check_group([times(number, four) for four in fours for number in (2, -1, -BIG)], many)
            self.check_group([NOTHING] + fours + [(-3, 0, 0, 0)], many)

    def test_endless_ones(self):
        for fours in ENDLESS:
            self.check_endless(fours)
            self.check_endless([times(-3, four) for four in fours])
            self.check_endless(fours[::-1])
            self.check_endless(conjugated(fours, (3, -1, 0, 2)))

    def test_all_pairs_of_small_turns(self):
        turns = helpers.small_plain_fours(1) + [(3, 1, 1, 1), (0, 1, 1, 2), (3, 1, 2, 2)]
        seen = set()
        for pair in itertools.combinations(turns, 2):
            expected = closure(list(pair))
            told = group_of(list(pair))
            self.assertEqual(told[0], "endless" if expected is None else "group")
            if expected is None:
                self.assertEqual(len({turn_by_steps(pair, word) for word in told[1]}), 25)
            else:
                self.assertEqual(told[1], expected)
                seen.add(len(expected))
        self.assertLessEqual({4, 6, 8, 12, 24}, seen)

    def test_great_fours(self):
        self.check_endless(helpers.some_fours(65, 1, BIG))
        self.check_endless(helpers.some_fours(66, 6, BIG))

    def test_fours_of_many_figures(self):
        four = reduce(then, helpers.some_fours(67, 12, BIG))
        self.assertEqual(len(group_of(conjugated(CUBE, four))[1]), 24)
        longest = reduce(then, helpers.some_fours(68, 49, BIG))
        self.assertGreater(max(abs(number) for number in longest), 10 ** 1400)
        fours = [longest]
        self.assertIs(are_unlike(fours, group_of(fours)[1]), True)
        halves = [(0,) + longest[1:], (0,) + longest[:3]]
        self.assertIs(are_unlike(halves, group_of(halves)[1]), True)

    def test_what_is_told_is_the_asker_s_own(self):
        for fours in [CUBE, [(2, 1, 0, 0)]]:
            handed = list(fours)
            told = group_of(handed)
            before = copy.deepcopy(told)
            told[1].clear()
            self.assertEqual(group_of(handed), before)
            self.assertEqual(handed, fours)


class AreUnlikeTest(unittest.TestCase):
    fours = [(2, 1, 0, 0), (1, 0, 3, 1), (4, 2, 0, 0), (1, 0, 0, 0)]

    def words(self, many):
        return [(0,) * length for length in range(many)]

    def test_many_enough(self):
        for many in range(42):
            self.assertIs(are_unlike(self.fours, self.words(many)), many >= 25, many)

    def test_words_in_any_order_and_of_any_length(self):
        chance = random.Random(71)
        words = []
        turns = set()
        while len(words) < 41:
            word = tuple(chance.randrange(2) for place in range(chance.randint(0, 40)))
            if turn_by_steps(self.fours, word) not in turns:
                turns.add(turn_by_steps(self.fours, word))
                words.append(word)
        self.assertIs(are_unlike(self.fours, words), True)
        self.assertIs(are_unlike(self.fours, words[:25]), True)
        self.assertIs(are_unlike(self.fours, words[:24]), False)

    def test_like_turns(self):
        self.assertIs(are_unlike(self.fours, self.words(30) + [(0, 0)]), False)
        self.assertIs(are_unlike(self.fours, self.words(30) + [(2, 2)]), False)
        self.assertIs(are_unlike(self.fours, [(3,)] + self.words(30)), False)
        self.assertIs(are_unlike(self.fours, self.words(30)[1:] + [(3,)]), True)
        self.assertIs(are_unlike(self.fours, self.words(30)[1:] + [(3,), (3, 3)]), False)
        self.assertIs(are_unlike(self.fours, self.words(30) + [(0, 1), (1, 0)]), True)
        self.assertIs(are_unlike(CUBE, [word for word in itertools.product(range(2), repeat=5)]), False)

    def test_words_are_held_from_the_first_place_on(self):
        fours = self.fours + [then(self.fours[0], self.fours[1])]
        self.assertIs(are_unlike(fours, self.words(30) + [(0, 1), (4,)]), False)
        self.assertIs(are_unlike(fours, self.words(30) + [(1, 0), (4,)]), True)
        self.assertIs(are_unlike(fours, self.words(30) + [(1, 0, 1), (1, 4)]), False)
        self.assertIs(are_unlike(fours, self.words(30) + [(1, 0, 1), (4, 1)]), True)

    def test_numbers_that_are_no_places(self):
        for place in [-1, -4, 4, 5, BIG, -BIG]:
            for word in [(place,), (0, place), (1, place, 0)]:
                self.assertIs(are_unlike(self.fours, self.words(30) + [word]), False, word)
                self.assertIs(are_unlike(self.fours, [word] + self.words(30)), False, word)
        self.assertIs(are_unlike([(2, 1, 0, 0)], self.words(30) + [(1,)]), False)

    def test_of_no_fours(self):
        self.assertIs(are_unlike([], [()]), False)
        self.assertIs(are_unlike([], []), False)
        self.assertIs(are_unlike([], [()] * 30), False)
        self.assertIs(are_unlike([], self.words(30)), False)

    def test_a_group_has_too_few(self):
        chance = random.Random(72)
        words = [tuple(chance.randrange(2) for place in range(40)) for number in range(41)]
        self.assertIs(are_unlike(CUBE, words), False)

    def test_remainders_that_are_all_the_same(self):
        # Every number here leaves the same as 0 or 1 by the modulus of the package.
        modulus = 2 ** 127 - 1
        fours = [(modulus + 1, modulus, 0, 0), (modulus, modulus, modulus, -modulus)]
        self.assertIs(are_unlike(fours, self.words(26)), True)
        self.assertIs(are_unlike(fours, self.words(26) + [(1,)]), True)
        self.assertIs(are_unlike(fours, self.words(26) + [(1, 1, 1)]), False)
        self.assertIs(are_unlike(fours, self.words(26) + [(1,), (1, 1, 1, 1)]), False)

    def test_great_fours(self):
        fours = helpers.some_fours(73, 6, BIG)
        chance = random.Random(74)
        words = [tuple(chance.randrange(6) for place in range(40)) for number in range(41)]
        self.assertIs(are_unlike(fours, words), True)
        self.assertIs(are_unlike(fours + [fours[3]], words[:40] + [words[7]]), False)
        other = tuple(6 if place == 3 else place for place in words[7])
        self.assertIs(are_unlike(fours + [times(-2, fours[3])], words[:40] + [other]), False)


class IsGroupTest(unittest.TestCase):
    def groups(self):
        for fours, many in MAKERS:
            turns = closure(fours)
            yield turns
            yield conjugated(turns, (1, -2, 0, 5))

    def test_groups_of_each_sort_in_any_order(self):
        chance = random.Random(81)
        for turns in self.groups():
            self.assertIs(is_group(turns), True)
            mixed = chance.sample(turns, len(turns))
            self.assertIs(is_group(mixed), True)
            self.assertIs(is_group([times(chance.choice([-1, 2, -BIG]), turn) for turn in mixed]), True)
        self.assertIs(is_group([(-5, 0, 0, 0)]), True)

    def test_one_four_missing(self):
        for turns in self.groups():
            for turn in turns:
                left = [other for other in turns if other != turn]
                self.assertIs(is_group(left), len(left) == 1 and left[0] == NOTHING, left)
        self.assertIs(is_group([]), False)

    def test_two_alike_as_turns(self):
        for turns in self.groups():
            for number in [1, -1, 4]:
                self.assertIs(is_group(turns + [times(number, turns[-1])]), False)
                self.assertIs(is_group([times(number, turns[0])] + turns), False)
        # Too many by one, and as many as a group may have but one twice.
        cube = closure(CUBE)
        self.assertIs(is_group(cube[:-1] + [cube[0]]), False)

    def test_none_that_moves_nothing(self):
        self.assertIs(is_group([(0, 1, 0, 0)]), False)
        for turns in self.groups():
            self.assertIs(is_group([turn for turn in turns if turn != NOTHING]), False)

    def test_one_more_four(self):
        for turns in self.groups():
            for more in [(1, 1, 0, 0), (2, 1, 0, 0), (0, 1, 1, 0), (0, 3, 1, 0), (1, 1, 1, 1)]:
                if more not in turns:
                    expected = closure(turns + [more]) == sorted(turns + [more])
                    self.assertIs(is_group(turns + [more]), expected)

    def test_one_four_exchanged(self):
        for turns in self.groups():
            if len(turns) > 2:
                for more in [(2, 1, 0, 0), (0, 3, 1, 0), (3, 0, 1, 0)]:
                    if more not in turns:
                        self.assertIs(is_group(turns[:-1] + [more]), False)

    def test_more_than_24(self):
        ahead = [(number, 1, 0, 0) for number in range(1, 25)]
        self.assertIs(is_group([NOTHING] + ahead), False)
        self.assertIs(is_group(closure(CUBE) + [(0, 1, 1, 1)]), False)

    def test_all_small_lists(self):
        turns = [NOTHING, (0, 1, 0, 0), (0, 0, 1, 0), (0, 0, 0, 1), (1, 1, 0, 0), (1, -1, 0, 0), (1, 1, 1, 1), (1, -1, -1, -1)]
        many = 0
        for length in range(1, 6):
            for some in itertools.combinations(turns, length):
                closed = all(then(one, other) in some for one in some for other in some)
                self.assertIs(is_group(list(some)), closed and NOTHING in some)
                many += closed
        self.assertGreater(many, 6)

    def test_what_is_handed_in_stays(self):
        handed = closure(CUBE)[::-1]
        before = list(handed)
        is_group(handed)
        self.assertEqual(handed, before)


class OfGroupsTest(unittest.TestCase):
    def test_counts(self):
        self.assertEqual(counts([NOTHING]), [(1, 1)])
        self.assertEqual(counts([(-2, 0, 0, 0), (0, 0, 3, 1)]), [(1, 1), (2, 1)])
        self.assertEqual(counts(closure(CUBE)), [(1, 1), (2, 9), (3, 8), (4, 6)])
        self.assertEqual(counts(closure([(3, 1, 1, 1), (0, 1, -1, 0)])), [(1, 1), (2, 7), (3, 2), (6, 2)])
        self.assertEqual(counts(closure([(1, 1, 1, 1), (0, 1, 0, 0)])), [(1, 1), (2, 3), (3, 8)])

    def test_counts_of_all_groups(self):
        for fours, many in MAKERS:
            turns = conjugated(closure(fours), (5, 0, 1, -2))
            expected = {}
            for turn in turns:
                expected[comes_back(turn)] = expected.get(comes_back(turn), 0) + 1
            told = counts([times(-3, turn) for turn in turns[::-1]])
            self.assertIsInstance(told, list)
            self.assertEqual(told, sorted(expected.items()))
            self.assertTrue(all(isinstance(pair, tuple) for pair in told))

    def test_images_and_stays(self):
        points = [as_point(0, 0, 0), as_point(1, 0, 0), as_point(1, 1, 0), as_point(1, -1, 1), as_point(1, 2, 3)]
        points += helpers.some_points(82, 3, 9) + helpers.some_points(83, 2, BIG)
        for fours, many in MAKERS:
            for turns in [closure(fours), conjugated(closure(fours), (1, 2, 0, -2))]:
                for point in points:
                    expected = {helpers.turned_by_document(turn, point) for turn in turns}
                    told = images([times(-2, turn) for turn in turns], point)
                    self.assertEqual(told, sorted(expected))
                    left = stays([times(-2, turn) for turn in turns[::-1]], point)
                    self.assertEqual(left, sorted(turn for turn in turns if turned(turn, point) == point))
                    self.assertEqual(len(told) * len(left), len(turns))
                    self.assertIsInstance(told, list)
                    self.assertIsInstance(left, list)

    def test_images_in_python_s_order_not_by_how_great(self):
        told = images([NOTHING, (0, 0, 0, 1)], as_point("1/3", "2/5", 0))
        self.assertEqual(told, [as_point("-1/3", "-2/5", 0), as_point("1/3", "2/5", 0)])
        told = images(closure(CUBE), as_point("2/5", "1/3", 0))
        self.assertEqual(told, sorted(told))
        self.assertLess(told.index(as_point("1/3", "2/5", 0)), told.index(as_point("2/5", "1/3", 0)))
        self.assertEqual(len(told), 24)

    def test_told_lists_are_the_asker_s_own(self):
        turns = closure(CUBE)
        point = as_point(1, 0, 0)
        for told in [lambda: images(turns, point), lambda: stays(turns, point), lambda: counts(turns)]:
            first = told()
            before = list(first)
            first.clear()
            self.assertEqual(told(), before)
        self.assertEqual(turns, closure(CUBE))


if __name__ == "__main__":
    unittest.main()
