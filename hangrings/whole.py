"""The whole points that turns lead to whole points."""

from hangrings.fours import plain, size, whole_table
from hangrings.reckon import common_divisor, inverse, sum_of_products

UNITS = ((1, 0, 0), (0, 1, 0), (0, 0, 1))


# The least from 0 on that the number is to be multiplied by to leave what is
# wanted; there is one.
def solved(number, wanted, modulus):
    divisor = common_divisor((modulus, number))
    smaller = modulus // divisor
    return wanted // divisor * inverse(number // divisor, smaller) % smaller


# All (p, q, r) for which p, q and r times the values, added up, are a multiple
# of the modulus, as three rows of the form told. Each row begins with the
# least number at its last place to which the places ahead can be found.
def divided_rows(values, modulus):
    first = common_divisor((modulus, values[0]))
    second = common_divisor((first, values[1]))
    third = common_divisor((second, values[2]))
    c = first // second
    f = second // third
    b = solved(values[0], -values[1] * c, modulus)
    e = solved(values[1], -values[2] * f, first)
    d = solved(values[0], -values[1] * e - values[2] * f, modulus)
    return ((modulus // first, 0, 0), (b, c, 0), (d, e, f))


def summed(multiples, rows):
    return tuple([sum_of_products(multiples, [row[place] for row in rows]) for place in (0, 1, 2)])


# Rows with 0 behind, brought to the form told.
def tidied(rows):
    a = rows[0][0]
    c = rows[1][1]
    b = rows[1][0] % a
    often = rows[2][1] // c
    d = (rows[2][0] - often * b) % a
    return (rows[0], (b, c, 0), (d, rows[2][1] - often * c, rows[2][2]))


def kept_rows(fours):
    rows = UNITS
    for four in fours:
        lowest = plain(four)
        bottom = size(lowest)
        for line in whole_table(lowest):
            values = [sum_of_products(line, row) % bottom for row in rows]
            rows = tidied([summed(multiples, rows) for multiples in divided_rows(values, bottom)])
    return rows


def index(four):
    rows = kept_rows([four])
    return rows[0][0] * rows[1][1] * rows[2][2]
