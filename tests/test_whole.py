import itertools
import unittest
from functools import reduce

import helpers
from helpers import BIG, NOTHING, is_whole, times

from hangrings.fours import plain, size, then, turned
from hangrings.whole import index, kept_rows

UNITS = ((1, 0, 0), (0, 1, 0), (0, 0, 1))


def stays_whole(fours, numbers):
    point = tuple((number, 1) for number in numbers)
    return all(entry[1] == 1 for four in fours for entry in turned(four, point))


def is_sum(rows, numbers):
    """Whether numbers are whole multiples of the rows, added up."""
    (a, x, y), (b, c, z), (d, e, f) = rows
    p, q, r = numbers
    if r % f:
        return False
    p, q = p - r // f * d, q - r // f * e
    if q % c:
        return False
    return (p - q // c * b) % a == 0


def odd_part(number):
    while number % 2 == 0:
        number //= 2
    return number


class KeptRowsTest(unittest.TestCase):
    def check_form(self, rows):
        self.assertIsInstance(rows, tuple)
        self.assertEqual([len(row) for row in rows], [3, 3, 3])
        self.assertTrue(all(isinstance(row, tuple) for row in rows))
        self.assertTrue(all(is_whole(number) for row in rows for number in row))
        (a, zero, nought), (b, c, none), (d, e, f) = rows
        self.assertEqual((zero, nought, none), (0, 0, 0))
        self.assertGreaterEqual(min(a, c, f), 1)
        self.assertTrue(0 <= b < a and 0 <= d < a and 0 <= e < c, rows)

    def check(self, fours, most):
        rows = kept_rows(fours)
        self.check_form(rows)
        for numbers in itertools.product(range(-most, most + 1), repeat=3):
            self.assertEqual(stays_whole(fours, numbers), is_sum(rows, numbers), (fours, rows, numbers))
        for row in rows:
            self.assertTrue(stays_whole(fours, row))

    def test_of_no_fours_and_of_what_moves_nothing(self):
        self.assertEqual(kept_rows([]), UNITS)
        for number in [1, -1, 6, BIG]:
            self.assertEqual(kept_rows([(number, 0, 0, 0)]), UNITS)
            self.assertEqual(kept_rows([(number, 0, 0, 0)] * 4), UNITS)

    def test_turns_that_keep_all_whole(self):
        for four in [(1, 1, 0, 0), (0, 1, -1, 0), (1, -1, 1, 1), (0, 0, 0, 1)]:
            self.assertEqual(kept_rows([four]), UNITS)
            self.assertEqual(kept_rows([times(-6, four)]), UNITS)

    def test_of_single_ones(self):
        self.assertEqual(kept_rows([(2, 0, 0, 1)]), ((5, 0, 0), (3, 1, 0), (0, 0, 1)))
        self.assertEqual(kept_rows([(2, 0, 0, -1)]), ((5, 0, 0), (2, 1, 0), (0, 0, 1)))
        self.assertEqual(kept_rows([(2, 1, 0, 0)]), ((1, 0, 0), (0, 5, 0), (0, 3, 1)))
        self.assertEqual(kept_rows([(2, 0, 0, 1), (2, 0, 0, -1)]), ((5, 0, 0), (0, 5, 0), (0, 0, 1)))

    def test_one_four_against_points_one_by_one(self):
        for four in helpers.small_plain_fours(2)[::5] + [(3, 1, 1, 0), (3, 2, 1, 1), (1, 0, 3, 2), (0, 1, 2, 3)]:
            self.check([four], 6)

    def test_some_fours_against_points_one_by_one(self):
        fours = helpers.some_fours(91, 60, 3)
        for place in range(0, 40, 2):
            for many in (2, 3, 4):
                self.check(fours[place:place + many], 4)

    def test_alike_sizes_and_dividing_sizes(self):
        for fours in [
            [(2, 1, 0, 0), (2, 0, 1, 0)], [(2, 1, 0, 0), (3, 1, 0, 0)], [(2, 1, 0, 0), (4, 3, 0, 0)],
            [(2, 1, 0, 0), (2, 0, 1, 0), (2, 0, 0, 1)], [(1, 1, 1, 0), (3, 3, 3, 1)], [(4, 3, 0, 0), (4, 0, 3, 0)],
            [(1, 2, 2, 0), (2, 2, 1, 0), (1, 1, 0, 1), (4, 1, 1, 0)], [(3, 0, 0, 1), (1, 0, 0, 3)],
        ]:
            self.check(fours, 9)

    def test_whole_boxes_have_as_many_points_as_the_rows_tell(self):
        for fours in [[(2, 1, 0, 0)], [(1, 1, 1, 0)], [(1, 1, 1, 0), (2, 1, 0, 0)], [(3, 1, 2, 1)], [(2, 2, 1, 0), (1, 1, 1, 0)]]:
            rows = kept_rows(fours)
            side = rows[0][0] * rows[1][1] * rows[2][2]
            self.assertLess(side, 50)
            kept = sum(stays_whole(fours, numbers) for numbers in itertools.product(range(side), repeat=3))
            self.assertEqual(kept, side ** 2)

    def test_order_and_multiples_do_not_matter(self):
        fours = helpers.some_fours(92, 16, 12)
        for place in range(0, 16, 4):
            four = fours[place:place + 4]
            told = kept_rows(four)
            self.assertEqual(kept_rows(four[::-1]), told)
            self.assertEqual(kept_rows([times(-15, entry) for entry in four]), told)
            self.assertEqual(kept_rows(four[:3] + four[:1]), kept_rows(four[:3]))

    def test_great_ones(self):
        for fours in [helpers.some_fours(93, 1, BIG), helpers.some_fours(94, 4, BIG), [(0, BIG, 1, 0), (BIG, 0, 0, 1)]]:
            rows = kept_rows(fours)
            self.check_form(rows)
            for row in rows:
                self.assertTrue(stays_whole(fours, row))
            # Not one of them can be had by a part of it.
            whole = rows[0][0] * rows[1][1] * rows[2][2]
            self.assertGreater(whole, BIG)
            for prime in [number for number in (2, 3, 5, 7, 11, 13) if whole % number == 0]:
                for often in itertools.product(range(prime), repeat=3):
                    total = [sum(often[i] * rows[i][j] for i in range(3)) for j in range(3)]
                    if any(often) and all(entry % prime == 0 for entry in total):
                        self.assertFalse(stays_whole(fours, [entry // prime for entry in total]))

    def test_what_is_handed_in_stays(self):
        handed = [(4, 2, 0, 0), (0, 0, -3, 1)]
        kept_rows(handed)
        self.assertEqual(handed, [(4, 2, 0, 0), (0, 0, -3, 1)])

    def test_fours_of_many_figures(self):
        four = reduce(then, helpers.some_fours(95, 48, BIG))
        other = reduce(then, helpers.some_fours(96, 10, BIG))
        self.assertGreater(max(abs(number) for number in four), 10 ** 1400)
        rows = kept_rows([four, other])
        self.check_form(rows)
        self.assertTrue(all(stays_whole([four, other], row) for row in rows))


class IndexTest(unittest.TestCase):
    def test_of_single_ones(self):
        self.assertEqual(index(NOTHING), 1)
        self.assertEqual(index((2, 1, 0, 0)), 5)
        self.assertEqual(index((1, 1, 1, 0)), 3)
        self.assertEqual(index((-6, 0, 3, 0)), 5)
        self.assertEqual(index((1, 1, 1, 1)), 1)
        self.assertEqual(index((0, 1, 2, 3)), 7)

    def test_it_is_what_the_rows_tell(self):
        for four in helpers.small_fours(2)[::3]:
            rows = kept_rows([four])
            self.assertEqual(index(four), rows[0][0] * rows[1][1] * rows[2][2])

    def test_it_is_the_size_without_its_twos(self):
        for four in helpers.small_plain_fours(3) + [plain(four) for four in helpers.some_fours(97, 12, BIG)]:
            self.assertEqual(index(four), odd_part(size(four)))
            self.assertTrue(is_whole(index(four)))


if __name__ == "__main__":
    unittest.main()
