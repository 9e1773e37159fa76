"""What several tests share: sample fours, and reckoning that doesn't lean on the package."""

import itertools
import random
from fractions import Fraction
from math import gcd

NOTHING = (1, 0, 0, 0)
BIG = 10 ** 30 - 1


def as_pair(value):
    value = Fraction(value)
    return (value.numerator, value.denominator)


def as_point(*values):
    return tuple(as_pair(value) for value in values)


def small_fours(most):
    numbers = range(-most, most + 1)
    return [four for four in itertools.product(numbers, repeat=4) if any(four)]


def small_plain_fours(most):
    return [four for four in small_fours(most) if gcd(*four) == 1 and four > (0, 0, 0, 0)]


def small_ways(most):
    numbers = range(-most, most + 1)
    return [way for way in itertools.product(numbers, repeat=3) if any(way)]


def small_plain_settings(most):
    pairs = itertools.product(range(-most, most + 1), range(1, most + 1))
    return [(1, 0)] + [pair for pair in pairs if gcd(*pair) == 1]


def some_fours(seed, many, most):
    chance = random.Random(seed)
    found = []
    while len(found) < many:
        four = tuple(chance.randint(-most, most) for place in range(4))
        if any(four):
            found.append(four)
    return found


def some_points(seed, many, most):
    chance = random.Random(seed)
    return [
        as_point(*[Fraction(chance.randint(-most, most), chance.randint(1, most)) for place in range(3)])
        for number in range(many)
    ]


def times(number, row):
    return tuple(number * entry for entry in row)


def is_whole(value):
    return isinstance(value, int) and not isinstance(value, bool)


def is_row(value, length):
    return isinstance(value, tuple) and len(value) == length and all(is_whole(entry) for entry in value)


def is_plain_four(value):
    return is_row(value, 4) and gcd(*value) == 1 and value > (0, 0, 0, 0)


def is_fraction(value):
    return is_row(value, 2) and value[1] >= 1 and gcd(*value) == 1


def is_plain_setting(value):
    return is_row(value, 2) and gcd(*value) == 1 and (value[1] > 0 or value == (1, 0))


def hamilton(one, other):
    """The product, by the rule that ii = jj = kk = ijk = -1, table by table of the units."""
    units = {
        (1, 1): (-1, 0), (2, 2): (-1, 0), (3, 3): (-1, 0),
        (1, 2): (1, 3), (2, 3): (1, 1), (3, 1): (1, 2),
        (2, 1): (-1, 3), (3, 2): (-1, 1), (1, 3): (-1, 2),
    }
    found = [0, 0, 0, 0]
    for i in range(4):
        for j in range(4):
            sign, place = units[(i, j)] if i and j else (1, i + j)
            found[place] += sign * one[i] * other[j]
    return tuple(found)


def table_by_document(four):
    """Point 5's three rows, as Fractions."""
    w, x, y, z = four
    n = w * w + x * x + y * y + z * z
    rows = [
        [w * w + x * x - y * y - z * z, 2 * (x * y - w * z), 2 * (x * z + w * y)],
        [2 * (x * y + w * z), w * w - x * x + y * y - z * z, 2 * (y * z - w * x)],
        [2 * (x * z - w * y), 2 * (y * z + w * x), w * w - x * x - y * y + z * z],
    ]
    return [[Fraction(number, n) for number in row] for row in rows]


def turned_by_document(four, point):
    numbers = [Fraction(*fraction) for fraction in point]
    rows = table_by_document(four)
    return as_point(*[sum(a * b for a, b in zip(row, numbers)) for row in rows])


def same_turn(one, other):
    """Whether two fours, plain or not, are multiples of one another."""
    return all(one[i] * other[j] == one[j] * other[i] for i in range(4) for j in range(i))
