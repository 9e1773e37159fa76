"""Axes of turns, how far turns lead, and turns about a way by a setting."""

from hangrings.fours import plain, size
from hangrings.reckon import cross_product, first_filled, negated, reduced, row_sum, sum_of_products

# A turn that comes back has an angle whose cosine is 0, a half or 1, above or
# below 0, if it is a fraction at all; so its rest is one of these.
COUNTS = {(1, 1): 1, (0, 1): 2, (1, 4): 3, (1, 2): 4, (3, 4): 6}


def axis(four):
    way = plain(four)[1:]
    if way == (0, 0, 0):
        return None
    return reduced(way)


def rest(four):
    return reduced((four[0] * four[0], size(four)))


def comes_back(four):
    return COUNTS.get(rest(four))


def plain_setting(setting):
    lowest = reduced(setting)
    if lowest[1] < 0 or lowest == (-1, 0):
        return negated(lowest)
    return lowest


def about(way, setting):
    return plain((setting[1], setting[0] * way[0], setting[0] * way[1], setting[0] * way[2]))


def are_along(one, other):
    return cross_product(one, other) == (0, 0, 0)


def setting_about(way, four):
    if not are_along(way, four[1:]):
        return None
    place = first_filled(way)
    return plain_setting((four[place + 1], four[0] * way[place]))


# The only setting by which a turn about the way leads one row of whole numbers,
# that isn't along the way, to the other one; or None.
def setting_between(way, one, other):
    if sum_of_products(way, one) != sum_of_products(way, other):
        return None
    if sum_of_products(one, one) != sum_of_products(other, other):
        return None
    both = row_sum(one, other)
    # The way from one to the other is k over l times this one, which is
    # upright to the way and to the bisector of both.
    across = cross_product(way, both)
    if across == (0, 0, 0):
        return (1, 0)
    place = first_filled(across)
    return plain_setting((other[place] - one[place], across[place]))
