import itertools
import unittest
from fractions import Fraction
from functools import reduce

import helpers
from helpers import BIG, NOTHING, as_pair, is_fraction, is_plain_four, times

from hangrings.errors import NoTurn
from hangrings.fours import plain, then, turned
from hangrings.tables import four_of, is_turn, table_of

FEW = helpers.some_fours(11, 30, 9) + [
    NOTHING, (0, 1, 0, 0), (0, 0, 1, 0), (0, 0, 0, 1), (0, 1, 1, 0), (0, 0, 3, -4), (0, 2, 0, 1), (0, 1, -2, 2),
    (1, 1, 0, 0), (3, 0, -1, 0), (5, 0, 0, 2), (1, 1, 1, 1),
]
GREAT = helpers.some_fours(12, 10, BIG) + [(0, BIG, -7, BIG - 1), (0, 0, BIG, 5)]
UNITS = tuple(tuple((int(i == j), 1) for j in range(3)) for i in range(3))


def table_from(rows):
    return tuple(tuple(as_pair(number) for number in row) for row in rows)


def as_rows(table):
    return [[Fraction(*number) for number in row] for row in table]


def is_turn_by_length(table):
    """Rows of length 1, upright to one another, and right-handed."""
    a, b, c = as_rows(table)

    def dot(one, other):
        return sum(left * right for left, right in zip(one, other))

    cross = [a[1] * b[2] - a[2] * b[1], a[2] * b[0] - a[0] * b[2], a[0] * b[1] - a[1] * b[0]]
    lengths = dot(a, a) == dot(b, b) == dot(c, c) == 1
    return lengths and dot(a, b) == dot(b, c) == dot(a, c) == 0 and dot(cross, c) == 1


class TableOfTest(unittest.TestCase):
    def test_of_single_ones(self):
        self.assertEqual(table_of(NOTHING), UNITS)
        self.assertEqual(table_of((1, 1, 0, 0)), table_from([[1, 0, 0], [0, 0, -1], [0, 1, 0]]))
        self.assertEqual(table_of((2, 0, 0, 1)), table_from(
            [[Fraction(3, 5), Fraction(-4, 5), 0], [Fraction(4, 5), Fraction(3, 5), 0], [0, 0, 1]]))

    def test_as_the_document_tells(self):
        for four in FEW + GREAT:
            for number in [1, -1, 6, -35]:
                table = table_of(times(number, four))
                self.assertEqual(table, table_from(helpers.table_by_document(four)))

    def test_kind(self):
        for four in FEW + GREAT:
            table = table_of(four)
            self.assertIsInstance(table, tuple)
            self.assertEqual(len(table), 3)
            for row in table:
                self.assertIsInstance(row, tuple)
                self.assertEqual(len(row), 3)
                self.assertTrue(all(is_fraction(number) for number in row))

    def test_columns_are_the_turned_units(self):
        for four in FEW:
            table = table_of(four)
            for j in range(3):
                self.assertEqual(tuple(row[j] for row in table), turned(four, UNITS[j]))


class FourOfTest(unittest.TestCase):
    def test_tables_of_turns(self):
        for four in FEW + GREAT + helpers.small_plain_fours(2):
            for number in [1, -3]:
                table = table_of(times(number, four))
                self.assertIs(is_turn(table), True)
                self.assertEqual(four_of(table), plain(four))
                self.assertTrue(is_plain_four(four_of(table)))

    def test_tables_of_told_fours(self):
        four = reduce(then, helpers.some_fours(13, 20, BIG))
        table = table_of(four)
        self.assertGreater(max(number[1] for row in table for number in row), 10 ** 600)
        self.assertIs(is_turn(table), True)
        self.assertEqual(four_of(table), four)

    def refused(self, table):
        self.assertFalse(is_turn_by_length(table))
        self.assertIs(is_turn(table), False)
        with self.assertRaises(NoTurn):
            four_of(table)

    def test_one_sign_changed(self):
        for four in FEW + GREAT:
            for i, j in itertools.product(range(3), repeat=2):
                rows = as_rows(table_of(four))
                if rows[i][j] != 0:
                    rows[i][j] = -rows[i][j]
                    self.refused(table_from(rows))

    def test_one_place_a_little_other(self):
        for four in FEW + GREAT:
            for i, j in itertools.product(range(3), repeat=2):
                for little in [Fraction(1, 10 ** 9), Fraction(-1, BIG), 1]:
                    rows = as_rows(table_of(four))
                    rows[i][j] += little
                    if not is_turn_by_length(table_from(rows)):
                        self.refused(table_from(rows))

    def test_rows_or_columns_exchanged(self):
        for four in FEW:
            for i, j in [(0, 1), (0, 2), (1, 2)]:
                rows = as_rows(table_of(four))
                rows[i], rows[j] = rows[j], rows[i]
                self.refused(table_from(rows))
                columns = list(zip(*as_rows(table_of(four))))
                columns[i], columns[j] = columns[j], columns[i]
                self.refused(table_from(zip(*columns)))

    def test_rows_moved_round_are_a_turn_still(self):
        for four in FEW:
            a, b, c = table_of(four)
            self.assertIs(is_turn((b, c, a)), True)
            self.assertEqual(table_of(four_of((b, c, a))), (b, c, a))

    def test_all_signs_changed(self):
        for four in FEW + GREAT:
            self.refused(table_from([[-number for number in row] for row in as_rows(table_of(four))]))

    def test_two_rows_of_other_signs_are_a_turn_still(self):
        for four in FEW:
            rows = as_rows(table_of(four))
            table = table_from([rows[0], [-number for number in rows[1]], [-number for number in rows[2]]])
            self.assertIs(is_turn(table), True)
            self.assertEqual(table_of(four_of(table)), table)

    def test_a_row_twice(self):
        for four in FEW:
            a, b, c = table_of(four)
            for table in [(a, a, c), (a, b, b), (a, b, a), (c, c, c)]:
                self.refused(table)

    def test_rows_of_length_one_that_are_not_upright(self):
        three, four = Fraction(3, 5), Fraction(4, 5)
        self.refused(table_from([[1, 0, 0], [three, four, 0], [0, 0, 1]]))
        self.refused(table_from([[three, four, 0], [four, three, 0], [0, 0, 1]]))
        self.refused(table_from([[three, four, 0], [0, three, four], [four, 0, three]]))

    def test_rows_of_other_lengths(self):
        self.refused(table_from([[2, 0, 0], [0, Fraction(1, 2), 0], [0, 0, 1]]))
        self.refused(table_from([[2, 0, 0], [0, 2, 0], [0, 0, 2]]))
        self.refused(table_from([[0, 0, 0], [0, 0, 0], [0, 0, 0]]))
        self.refused(table_from([[-1, 0, 0], [0, 0, 0], [0, 0, 0]]))
        self.refused(table_from([[1, 1, 0], [-1, 1, 0], [0, 0, 1]]))

    def test_upright_columns_and_a_size_of_one_without_turning(self):
        self.refused(table_from([[1, 1, 0], [0, 1, 0], [0, 0, 1]]))
        self.refused(table_from([[1, 0, 0], [0, 1, 0], [BIG, 0, 1]]))

    def test_all_small_tables(self):
        turns = 0
        for numbers in itertools.product([-1, 0, 1], repeat=9):
            table = tuple(tuple((number, 1) for number in numbers[i:i + 3]) for i in (0, 3, 6))
            if is_turn(table):
                turns += 1
                self.assertEqual(table_of(four_of(table)), table)
        self.assertEqual(turns, 24)

    def test_half_turns_and_turns_about_one_letter(self):
        self.assertEqual(four_of(table_from([[1, 0, 0], [0, -1, 0], [0, 0, -1]])), (0, 1, 0, 0))
        self.assertEqual(four_of(table_from([[-1, 0, 0], [0, 1, 0], [0, 0, -1]])), (0, 0, 1, 0))
        self.assertEqual(four_of(table_from([[-1, 0, 0], [0, -1, 0], [0, 0, 1]])), (0, 0, 0, 1))
        self.assertEqual(four_of(table_from([[0, 1, 0], [1, 0, 0], [0, 0, -1]])), (0, 1, 1, 0))
        self.assertEqual(four_of(table_from([[-1, 0, 0], [0, 0, -1], [0, -1, 0]])), (0, 0, 1, -1))
        self.assertEqual(four_of(table_from([[0, 0, 1], [0, 1, 0], [-1, 0, 0]])), (1, 0, 1, 0))
        self.assertEqual(four_of(table_from([[0, 0, -1], [0, 1, 0], [1, 0, 0]])), (1, 0, -1, 0))


if __name__ == "__main__":
    unittest.main()
