"""Tables of nine fractions: of turns, and which turn they are of."""

from hangrings.errors import NoTurn
from hangrings.fours import plain, size, whole_table
from hangrings.reckon import levelled, lowered


def table_of(four):
    bottom = size(four)
    return tuple([lowered((row, bottom)) for row in whole_table(four)])


# Of a turn's table the rows here are multiples of its four, by w, x, y and z.
# So the first row that isn't all noughts tells the only four that the table
# can be of. There is one: the numbers in which bottom stands add up to 4 of it.
def only_four(table):
    level = levelled(table[0] + table[1] + table[2])
    tops = level[0]
    bottom = level[1]
    wx = tops[7] - tops[5]
    wy = tops[2] - tops[6]
    wz = tops[3] - tops[1]
    xy = tops[1] + tops[3]
    xz = tops[2] + tops[6]
    yz = tops[5] + tops[7]
    rows = (
        (bottom + tops[0] + tops[4] + tops[8], wx, wy, wz),
        (wx, bottom + tops[0] - tops[4] - tops[8], xy, xz),
        (wy, xy, bottom - tops[0] + tops[4] - tops[8], yz),
        (wz, xz, yz, bottom - tops[0] - tops[4] + tops[8]),
    )
    return [row for row in rows if row != (0, 0, 0, 0)][0]


# Multiplied crosswise, since lowest terms of great numbers take long to find.
def is_table_of(table, four):
    bottom = size(four)
    for row, whole_row in zip(table, whole_table(four)):
        for fraction, top in zip(row, whole_row):
            if fraction[0] * bottom != fraction[1] * top:
                return False
    return True


def is_turn(table):
    return is_table_of(table, only_four(table))


def four_of(table):
    four = only_four(table)
    if not is_table_of(table, four):
        raise NoTurn("this table is of no turn")
    return plain(four)
