"""Axes of turns, how far turns lead, and turns about a way by a setting."""

from hangrings.fours import plain, size
from hangrings.reckon import negated, reduced

# A turn that comes back has an angle whose cosine is 0, a half or 1, above or
# below 0, if it is a fraction at all; so its rest is one of these.
COUNTS = {(1, 1): 1, (0, 1): 2, (1, 4): 3, (1, 2): 4, (3, 4): 6}


def axis(four):
    way = plain(four)[1:]
    if way == (0, 0, 0):
        return None
    return reduced(way)


def rest(four):
    return reduced((four[0] * four[0], size(four)))


def comes_back(four):
    return COUNTS.get(rest(four))


def plain_setting(setting):
    lowest = reduced(setting)
    if lowest[1] < 0 or lowest == (-1, 0):
        return negated(lowest)
    return lowest


def about(way, setting):
    return plain((setting[1], setting[0] * way[0], setting[0] * way[1], setting[0] * way[2]))


def are_along(one, other):
    return (
        one[0] * other[1] == one[1] * other[0]
        and one[0] * other[2] == one[2] * other[0]
        and one[1] * other[2] == one[2] * other[1]
    )


def setting_about(way, four):
    if not are_along(way, four[1:]):
        return None
    place = [number for number in (0, 1, 2) if way[number] != 0][0]
    return plain_setting((four[place + 1], four[0] * way[place]))
