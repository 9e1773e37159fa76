import itertools
import random
import unittest
from fractions import Fraction

import helpers
from helpers import BIG, NOTHING, is_fraction, is_whole, times

from hangrings.axes import rest
from hangrings.calm import calm, is_calm, lots, step
from hangrings.fours import back, then

CUBE_STANDS = [NOTHING, (1, 1, 0, 0), (0, 1, 0, 0), (1, 0, 1, 0), (1, 1, 1, 1), (0, 0, 1, 1)]
# Each of these stands as far from the next one, and far from all others.
ROW = [(5, number, 0, 0) for number in (0, 2, 5, 12, 60)]


def some_stands():
    yield CUBE_STANDS
    yield ROW
    yield ROW[::-1] + CUBE_STANDS[1:]
    yield [NOTHING]
    yield [(1, 2, 3, 4), (-2, -4, -6, -8)]
    yield [(1, 2, 3, 4), (3, 0, 0, 1), (1, 2, 3, 4), (6, 0, 0, 2)]
    yield [(1, 0, 0, 0), (0, 1, 0, 0), (0, 0, 1, 0), (0, 0, 0, 1)]
    for seed in range(12):
        yield helpers.some_fours(100 + seed, 2 + seed % 6, 4)
    yield helpers.some_fours(113, 10, 6)
    yield helpers.some_fours(114, 5, BIG)


def rests(stands):
    """The rests of all steps, as Fractions."""
    return [[Fraction(*rest(then(back(one), other))) for other in stands] for one in stands]


def best_rests(stands):
    """For all two places the greatest least rest of a row of steps between them."""
    best = rests(stands)
    places = range(len(stands))
    for via, one, other in itertools.product(places, repeat=3):
        best[one][other] = max(best[one][other], min(best[one][via], best[via][other]))
    return best


def as_pair(value):
    return (value.numerator, value.denominator)


class StepTest(unittest.TestCase):
    def test_of_single_ones(self):
        self.assertEqual(step(CUBE_STANDS, 0, 1), (1, 2))
        self.assertEqual(step(CUBE_STANDS, 0, 2), (0, 1))
        self.assertEqual(step(CUBE_STANDS, 1, 4), (1, 2))
        self.assertEqual(step([(2, 1, 0, 0), (1, 1, 0, 0)], 0, 1), (9, 10))

    def test_either_way_about(self):
        for stands in some_stands():
            far = rests(stands)
            for one, other in itertools.product(range(len(stands)), repeat=2):
                told = step(stands, one, other)
                self.assertTrue(is_fraction(told))
                self.assertEqual(told, as_pair(far[one][other]))
                self.assertEqual(step(stands, other, one), told)

    def test_of_a_place_and_itself(self):
        for stands in some_stands():
            for place in range(len(stands)):
                self.assertEqual(step(stands, place, place), (1, 1))

    def test_multiples(self):
        stands = [(1, 2, 0, 1), (0, 3, 1, 1)]
        for one, other in [(2, 1), (-1, 1), (-3, 7), (BIG, -1)]:
            self.assertEqual(step([times(one, stands[0]), times(other, stands[1])], 0, 1), step(stands, 0, 1))
        self.assertEqual(step([stands[0], times(-4, stands[0])], 0, 1), (1, 1))


class CalmTest(unittest.TestCase):
    def check(self, stands, one, other):
        far = rests(stands)
        handed = list(stands)
        told = calm(handed, one, other)
        self.assertEqual(handed, stands)
        self.assertIsInstance(told, tuple)
        places, least, split = told
        self.assertIsInstance(places, list)
        self.assertIsInstance(split, list)
        self.assertTrue(is_fraction(least))
        if one == other:
            self.assertEqual(told, ([one], (1, 1), []))
            return
        for entry in places + split:
            self.assertTrue(is_whole(entry) and 0 <= entry < len(stands))
        self.assertEqual(len(set(places)), len(places))
        self.assertEqual((places[0], places[-1]), (one, other))
        self.assertEqual(min(far[a][b] for a, b in zip(places, places[1:])), Fraction(*least))
        self.assertEqual(best_rests(stands)[one][other], Fraction(*least))
        self.assertEqual(len(set(split)), len(split))
        self.assertIn(one, split)
        self.assertNotIn(other, split)
        for inside in split:
            for outside in set(range(len(stands))) - set(split):
                self.assertLessEqual(far[inside][outside], Fraction(*least))
        self.assertIs(is_calm(stands, one, other, places, least, split), True)

    def test_all_places(self):
        for stands in some_stands():
            for one, other in itertools.product(range(len(stands)), repeat=2):
                self.check(stands, one, other)

    def test_of_single_ones(self):
        self.assertEqual(calm([NOTHING], 0, 0), ([0], (1, 1), []))
        self.assertEqual(calm([NOTHING, (1, 1, 0, 0)], 1, 0), ([1, 0], (1, 2), [1]))
        self.assertEqual(calm([NOTHING, (1, 1, 0, 0), (0, 1, 0, 0)], 0, 2), ([0, 1, 2], (1, 2), [0]))
        self.assertEqual(calm([(1, 1, 0, 0), (2, 2, 0, 0)], 0, 1), ([0, 1], (1, 1), [0]))
        self.assertEqual(calm([NOTHING, (0, 1, 0, 0)], 0, 1), ([0, 1], (0, 1), [0]))

    def test_rows_of_many_steps(self):
        places, least, split = calm(ROW, 0, 4)
        self.assertEqual(places, [0, 1, 2, 3, 4])
        self.check(ROW, 4, 0)

    def test_stands_of_many_figures(self):
        stands = helpers.some_fours(115, 10, 10 ** 1450)
        told = calm(stands, 3, 8)
        self.assertIs(is_calm(stands, 3, 8, *told), True)
        self.assertEqual(lots(stands, told[1])[0][0], 0)

    def test_what_is_told_is_the_asker_s_own(self):
        for one, other in [(0, 3), (2, 2)]:
            first = calm(CUBE_STANDS, one, other)
            self.assertIsNot(first[0], first[2])
            before = (list(first[0]), first[1], list(first[2]))
            first[0].append(7)
            first[2].append(7)
            self.assertEqual(calm(CUBE_STANDS, one, other), before)


class IsCalmTest(unittest.TestCase):
    def right_ones(self, stands, one, other):
        """All places, rest and splits, looked for one by one."""
        far = rests(stands)
        best = best_rests(stands)[one][other]
        between = [place for place in range(len(stands)) if place not in (one, other)]
        rows = [
            [one, *some, other]
            for many in range(len(between) + 1) for some in itertools.permutations(between, many)
        ]
        good_rows = [row for row in rows if min(far[a][b] for a, b in zip(row, row[1:])) == best]
        splits = [[one, *some] for many in range(len(between) + 1) for some in itertools.combinations(between, many)]
        good_splits = [
            split for split in splits
            if max(far[a][b] for a in split for b in range(len(stands)) if b not in split) <= best
        ]
        return rows, good_rows, as_pair(best), splits, good_splits

    def test_all_places_and_splits_one_by_one(self):
        for stands in [CUBE_STANDS, ROW, [(1, 2, 3, 4), (3, 0, 0, 1), (1, 2, 3, 4), (6, 0, 0, 2)],
                       helpers.some_fours(121, 5, 3)]:
            for one, other in [(0, len(stands) - 1), (2, 1)]:
                rows, good_rows, least, splits, good_splits = self.right_ones(stands, one, other)
                for row in rows:
                    told = is_calm(stands, one, other, row, least, good_splits[0])
                    self.assertIs(told, row in good_rows)
                for split in splits:
                    told = is_calm(stands, one, other, good_rows[0], least, split[::-1])
                    self.assertIs(told, split in good_splits)

    def test_one_thing_alone_is_wrong(self):
        stands = [NOTHING, (1, 1, 0, 0), (0, 1, 0, 0), (0, 0, 1, 0)]
        places, least, split = [0, 1, 2], (1, 2), [0, 3]
        self.assertIs(is_calm(stands, 0, 2, places, least, split), True)
        self.assertIs(is_calm(stands, 0, 2, places, least, [3, 0]), True)
        self.assertIs(is_calm(stands, 0, 2, places, least, [0]), True)
        self.assertIs(is_calm(stands, 0, 2, places, least, [1, 0]), True)
        for wrong in [
            [], [0], [2], [0, 2], [0, 1], [1, 2], [2, 1, 0], [0, 1, 1, 2], [0, 0, 1, 2], [0, 1, 2, 2], [0, 1, 0, 1, 2],
            [0, 3, 1, 2], [0, 1, 2, 3], [3, 0, 1, 2], [0, 1, -2], [0, -3, 2], [-4, 1, 2], [0, 4, 2], [0, 1, 2, 4],
            [0, BIG, 2], [0, 1, -BIG, 2], [0, 1, 2, 0], [-1],
        ]:
            self.assertIs(is_calm(stands, 0, 2, wrong, least, split), False, wrong)
        for wrong in [(1, 1), (0, 1), (1, 3), (2, 3), (-1, 2), (3, 1), (BIG, 2), (BIG // 2, BIG)]:
            self.assertIs(is_calm(stands, 0, 2, places, wrong, split), False, wrong)
        for wrong in [
            [], [3], [1, 3], [0, 2], [0, 2, 3], [0, 3, 3], [0, 0], [0, 0, 3], [0, 4], [0, -1], [0, 3, -1],
            [-4], [-4, 3], [0, BIG], [-BIG, 0], [0, 1, 2, 3],
        ]:
            self.assertIs(is_calm(stands, 0, 2, places, least, wrong), False, wrong)

    def test_a_split_out_of_which_a_greater_step_leads(self):
        stands = [NOTHING, (2, 1, 0, 0), (1, 1, 0, 0), (0, 1, 5, 0)]
        places, least, split = calm(stands, 0, 3)
        self.assertIs(is_calm(stands, 0, 3, places, least, [0, 1, 2]), True)
        for wrong in [[0], [0, 1], [0, 2]]:
            self.assertIs(is_calm(stands, 0, 3, places, least, wrong), False, wrong)

    def test_a_row_with_a_lesser_rest_and_its_rest(self):
        stands = [NOTHING, (1, 1, 0, 0), (0, 1, 0, 0)]
        self.assertIs(is_calm(stands, 0, 2, [0, 2], (0, 1), [0]), False)
        self.assertIs(is_calm(stands, 0, 2, [0, 2], (0, 1), [0, 1]), False)

    def test_what_is_handed_in_stays(self):
        stands, places, split = [NOTHING, (2, 2, 0, 0)], [0, 1], [0]
        is_calm(stands, 0, 1, places, (1, 2), split)
        self.assertEqual((stands, places, split), ([NOTHING, (2, 2, 0, 0)], [0, 1], [0]))


class LotsTest(unittest.TestCase):
    def lots_by_steps(self, stands, least):
        best = best_rests(stands)
        found = []
        for place in range(len(stands)):
            lot = [other for other in range(len(stands)) if other == place or best[place][other] >= least]
            if lot not in found:
                found.append(lot)
        return found

    def test_for_any_fraction(self):
        chance = random.Random(131)
        for stands in some_stands():
            wanted = {entry for row in rests(stands) for entry in row}
            wanted |= {Fraction(0), Fraction(1), Fraction(-1, 3), Fraction(7, 3), Fraction(BIG, 2), Fraction(-BIG)}
            wanted |= {entry + little for entry in list(wanted) for little in (Fraction(1, BIG), Fraction(-1, BIG))}
            for least in chance.sample(sorted(wanted), min(len(wanted), 25)):
                told = lots(stands, as_pair(least))
                self.assertEqual(told, self.lots_by_steps(stands, least))

    def test_of_single_ones(self):
        self.assertEqual(lots(CUBE_STANDS, (0, 1)), [[0, 1, 2, 3, 4, 5]])
        self.assertEqual(lots(CUBE_STANDS, (-5, 1)), [[0, 1, 2, 3, 4, 5]])
        self.assertEqual(lots(CUBE_STANDS, (2, 1)), [[0], [1], [2], [3], [4], [5]])
        self.assertEqual(lots([NOTHING], (2, 1)), [[0]])
        self.assertEqual(lots([(1, 1, 0, 0), NOTHING, (-2, -2, 0, 0)], (1, 1)), [[0, 2], [1]])
        self.assertEqual(lots([(1, 1, 0, 0), NOTHING, (-2, -2, 0, 0)], (1001, 1000)), [[0], [1], [2]])
        self.assertEqual(lots([NOTHING, (0, 1, 0, 0), (1, 1, 0, 0)], (1, 2)), [[0, 1, 2]])
        self.assertEqual(lots([NOTHING, (0, 1, 0, 0), (1, 2, 0, 0)], (1, 2)), [[0], [1, 2]])

    def test_each_list_is_the_asker_s_own(self):
        first = lots(CUBE_STANDS, (2, 1))
        for lot in first:
            lot.clear()
        self.assertEqual(lots(CUBE_STANDS, (2, 1)), [[0], [1], [2], [3], [4], [5]])


if __name__ == "__main__":
    unittest.main()
