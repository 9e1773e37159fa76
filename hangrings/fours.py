"""Fours of whole numbers, and the turns of space that they tell."""

from hangrings.reckon import levelled, lowered, negated, reduced, sum_of_products

NOTHING = (1, 0, 0, 0)


def plain(four):
    lowest = reduced(four)
    # Tuples are compared at the first place where they differ: here that of
    # the first number that isn't 0.
    if lowest < (0, 0, 0, 0):
        return negated(lowest)
    return lowest


def size(four):
    return sum_of_products(four, four)


def product(one, other):
    return (
        one[0] * other[0] - one[1] * other[1] - one[2] * other[2] - one[3] * other[3],
        one[0] * other[1] + one[1] * other[0] + one[2] * other[3] - one[3] * other[2],
        one[0] * other[2] - one[1] * other[3] + one[2] * other[0] + one[3] * other[1],
        one[0] * other[3] + one[1] * other[2] - one[2] * other[1] + one[3] * other[0],
    )


# The turn that is done first is the right one of a product: it stands next to
# the point.
def then(one, other):
    return plain(product(other, one))


def back(four):
    return plain((four[0], -four[1], -four[2], -four[3]))


# Not yet divided by the size, so that it stays whole.
def whole_table(four):
    w = four[0]
    x = four[1]
    y = four[2]
    z = four[3]
    return (
        (w * w + x * x - y * y - z * z, 2 * (x * y - w * z), 2 * (x * z + w * y)),
        (2 * (x * y + w * z), w * w - x * x + y * y - z * z, 2 * (y * z - w * x)),
        (2 * (x * z - w * y), 2 * (y * z + w * x), w * w - x * x - y * y + z * z),
    )


def level_turned(four, level):
    tops = tuple([sum_of_products(row, level[0]) for row in whole_table(four)])
    return (tops, level[1] * size(four))


def turned(four, point):
    return lowered(level_turned(four, levelled(point)))
