"""Mirrors, each told by a way upright to its plane, and the turns that two of them make."""

from hangrings.fours import plain, product
from hangrings.reckon import levelled, lowered, sum_of_products


def mirrored(way, point):
    level = levelled(point)
    length = sum_of_products(way, way)
    across = 2 * sum_of_products(way, level[0])
    tops = tuple([length * top - across * entry for top, entry in zip(level[0], way)])
    return lowered((tops, length * level[1]))


# A mirror's way, as a four with 0 ahead, stands on both sides of the point in a
# product; so two mirrors put together are a product like a turn's.
def two_mirrors(one, other):
    return plain(product((0,) + other, (0,) + one))


# The product with the mirror's way takes the mirror off. It is one of a mirror
# where there is 0 ahead.
def other_mirror(four, way):
    found = product(four, (0,) + way)
    if found[0] != 0:
        return None
    return plain(found)[1:]
