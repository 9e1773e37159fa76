"""keeps, held against looking: every turn of small numbers is tried."""

import itertools
import random
import unittest
from fractions import Fraction

import helpers
from helpers import BIG, NOTHING, as_point, is_plain_four

from hangrings.fours import back, then, turned
from hangrings.groups import is_group
from hangrings.keeping import keeps

MIDDLE = (0, 0, 0)
SMALL = helpers.small_plain_fours(3)
HEXAGON = [row for row in itertools.permutations((1, -1, 0))]
CUBE = list(itertools.product((-1, 1), repeat=3))
EDGES = [row for row in itertools.product((-1, 0, 1), repeat=3) if row.count(0) == 1]
FACES = [row for row in itertools.product((-1, 0, 1), repeat=3) if row.count(0) == 2]
FOUR_CORNERS = [(1, 1, 1), (1, -1, -1), (-1, 1, -1), (-1, -1, 1)]

KEPT = [
    (24, CUBE), (24, FACES), (24, EDGES), (24, FACES + [MIDDLE]), (24, [tuple(3 * entry for entry in row) for row in EDGES]),
    (12, FOUR_CORNERS), (12, FOUR_CORNERS + [tuple(-2 * entry for entry in row) for row in FOUR_CORNERS]), (12, HEXAGON),
    (12, HEXAGON + [(1, 1, 1), (-1, -1, -1)]), (8, [(1, 0, 0), (0, 1, 0), (-1, 0, 0), (0, -1, 0)]), (8, CUBE + [(0, 0, 3), (0, 0, -3)]),
    (8, [(1, 1, 0), (1, -1, 0), (-1, 1, 0), (-1, -1, 0), (0, 0, 2), (0, 0, -2), MIDDLE]), (6, [(2, -1, -1), (-1, 2, -1), (-1, -1, 2)]),
    (6, [tuple(entry + 1 for entry in row) for row in HEXAGON]), (6, CUBE[1:-1]), (4, [(1, 0, 1), (0, 1, 1), (-1, 0, 1), (0, -1, 1)]),
    (4, [(2, 1, 0), (-2, -1, 0), (2, -1, 0), (-2, 1, 0)]), (4, [(1, 0, 0), (-1, 0, 0), (0, 2, 0), (0, -2, 0), MIDDLE]),
    (4, [(1, 0, 0), (-1, 0, 0), (0, 2, 0), (0, -2, 0), (0, 0, 3), (0, 0, -3)]), (4, CUBE + [(0, 0, 3)]), (3, [(1, 0, 0), (0, 1, 0), (0, 0, 1)]),
    (3, CUBE + [(3, 3, 3)]), (3, CUBE[1:]), (3, FOUR_CORNERS[1:]), (2, [(1, 0, 0), (0, 1, 0)]), (2, [(1, 0, 0), (-1, 0, 0), (0, 1, 0)]),
    (2, [(2, 1, 0), (-2, -1, 0), (1, 3, 0), (-1, -3, 0)]), (1, [(1, 0, 0), (0, 2, 0)]), (1, [(1, 0, 0), (2, 0, 0), (0, 1, 0)]),
    (1, [(1, 0, 0), (0, 2, 0), (0, 0, 3)]), (1, [MIDDLE, (1, 0, 0), (1, 1, 0)]), (1, [(1, 2, 3), (3, 1, 2), (2, 3, 1), (1, 1, 0)]),
    (6, [(1, 0, 0), (-1, 0, 0), (0, 1, 0), (0, -1, 0), (0, 0, 1), (0, 0, -1), (1, 1, 1), (-1, -1, -1)]),
]
LINES = [
    [MIDDLE], [MIDDLE] * 12, [(1, 2, 3)], [(1, 2, 3)] * 3, [(1, 2, 3), (-2, -4, -6)], [MIDDLE, (0, 0, 5)], [(0, 0, 5), MIDDLE, (0, 0, -1), (0, 0, 5)],
    [(1, -1, 1), (2, -2, 2), (-7, 7, -7), (BIG, -BIG, BIG)], [(0, 0, 1), (0, 0, 2), (0, 0, 3)],
]


def points_of(rows, divided=1):
    return [as_point(*[Fraction(entry, divided) for entry in row]) for row in rows]


def are_kept(four, points):
    return all(helpers.turned_by_document(four, point) in points for point in points)


def are_on_one_line(rows):
    return all(one[i] * other[j] == one[j] * other[i] for one in rows for other in rows for i in range(3) for j in range(i))


class KeepsTest(unittest.TestCase):
    def check(self, points, told):
        self.assertIsInstance(told, tuple)
        self.assertEqual(told[0], "some")
        self.assertIsInstance(told[1], list)
        self.assertEqual(told[1], sorted(set(told[1])))
        self.assertTrue(all(is_plain_four(four) for four in told[1]))
        self.assertTrue(all(are_kept(four, points) for four in told[1]))
        self.assertTrue(is_group(told[1]))

    def test_lines(self):
        for rows in LINES:
            for divided in (1, 7):
                self.assertEqual(keeps(points_of(rows, divided)), ("line",))

    def test_known_ones(self):
        self.assertEqual({many for many, rows in KEPT}, {1, 2, 3, 4, 6, 8, 12, 24})
        for many, rows in KEPT:
            for divided in (1, 6):
                points = points_of(rows, divided)
                told = keeps(points)
                self.check(points, told)
                self.assertEqual(len(told[1]), many, rows)
            # All of these keep a cube or a hexagon, so their numbers are small.
            self.assertEqual(told[1], [four for four in SMALL if are_kept(four, points)])

    def test_the_order_and_points_that_come_twice(self):
        chance = random.Random(841)
        for many, rows in KEPT:
            points = points_of(rows)
            told = keeps(points)
            while len(points) < 12:
                points.append(chance.choice(points))
            chance.shuffle(points)
            self.assertEqual(keeps(points), told)
            self.assertEqual(keeps(points), told)

    def test_one_more_point_at_the_middle(self):
        for many, rows in KEPT:
            if len(rows) < 12:
                self.assertEqual(keeps(points_of([MIDDLE] + rows)), keeps(points_of(rows)))

    def test_turned_points(self):
        for four in helpers.some_fours(842, 3, 4) + helpers.some_fours(843, 1, BIG):
            for many, rows in KEPT:
                points = [turned(four, point) for point in points_of(rows, 5)]
                told = keeps(points)
                self.assertEqual(told[1], sorted(then(then(back(four), kept), four) for kept in keeps(points_of(rows))[1]))

    def test_small_points_against_looking(self):
        chance = random.Random(844)
        rows = list(itertools.product((-1, 0, 1), repeat=3))
        for number in range(150):
            chosen = [chance.choice(rows) for place in range(chance.randint(1, 6))]
            points = points_of(chosen)
            told = keeps(points)
            if are_on_one_line(chosen):
                self.assertEqual(told, ("line",))
            else:
                self.check(points, told)
                self.assertEqual(told[1], [four for four in SMALL if are_kept(four, points)])

    def test_no_point_moves_unless_to_one_of_them(self):
        # As far from the middle, but none of them; and one of unlike length on the same ray.
        self.assertEqual(keeps(points_of([(3, 4, 0), (5, 0, 0), (0, 0, 1)]))[1], [NOTHING])
        self.assertEqual(keeps(points_of([(5, 0, 0), (0, 5, 0), (0, 0, 1)]))[1], [NOTHING])
        self.assertEqual(keeps(points_of([(5, 0, 0), (0, 5, 0)]))[1], [(0, 1, 1, 0), NOTHING])
        self.assertEqual(keeps(points_of([(3, 4, 0), (5, 0, 0)]))[1], [(0, 2, 1, 0), NOTHING])

    def test_great_ones(self):
        self.assertEqual(keeps(helpers.some_points(845, 12, BIG)), ("some", [NOTHING]))
        points = helpers.some_points(846, 1, BIG)
        for four in [(1, 0, 0, 1), (0, 0, 0, 1), (1, 0, 0, -1)]:
            points.append(turned(four, points[0]))
        self.assertEqual(keeps(points), ("some", sorted([NOTHING, (1, 0, 0, 1), (0, 0, 0, 1), (1, 0, 0, -1)])))
        far = helpers.some_points(847, 1, 10 ** 1400)[0]
        self.assertEqual(keeps([far, turned((0, 1, 1, 0), far)]), ("some", [(0, 1, 1, 0), NOTHING]))


if __name__ == "__main__":
    unittest.main()
