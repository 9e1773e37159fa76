"""Hangers of three rings, and all settings of them that make a turn."""

from hangrings.axes import about, plain_setting
from hangrings.errors import NoHanger
from hangrings.fours import plain, product, then
from hangrings.reckon import exact_root, sum_of_products

WAYS = {"x": (1, 0, 0), "y": (0, 1, 0), "z": (0, 0, 1)}
PLACES = {"x": 1, "y": 2, "z": 3}


def is_hanger(hanger):
    if len(hanger) != 3 or hanger[0] == hanger[1] or hanger[1] == hanger[2]:
        return False
    return all([letter in WAYS for letter in hanger])


def refuse_no_hanger(hanger):
    if not is_hanger(hanger):
        raise NoHanger("a hanger is three letters of x, y, z, no two neighbours the same")


def hung(hanger, settings):
    refuse_no_hanger(hanger)
    first = about(WAYS[hanger[0]], settings[0])
    middle = about(WAYS[hanger[1]], settings[1])
    last = about(WAYS[hanger[2]], settings[2])
    return then(then(last, middle), first)


def third_letter(hanger):
    return [letter for letter in "xyz" if letter != hanger[0] and letter != hanger[1]][0]


# What turns about one way by two settings make together is about it too.
def joined(one, other):
    return (one[0] * other[1] + one[1] * other[0], one[1] * other[1] - one[0] * other[0])


def taken_back(setting):
    return (-setting[0], setting[1])


# 1 where the first letter's four times the middle one's is the third one's,
# -1 where it is that below 0.
def hand_of(hanger):
    return 1 if hanger[0] + hanger[1] + third_letter(hanger) in "xyzxy" else -1


# A last letter that isn't the first one is led to it by a quarter turn about
# the middle way. So a hanger of unlike letters is one whose first and last
# letter are the same, its middle setting leaning by a quarter turn more.
def lean_of(hanger):
    return 0 if hanger[0] == hanger[2] else hand_of(hanger)


# The four with its lean taken off, parted into two settings about the first
# way. With first, middle and last set as of a hanger whose first and last
# letter are the same, the middle one's l times first and last joined is the
# one, and its k times first and last taken back, joined, is the other.
def two_parts(hanger, four):
    upright = [1, 0, 0, 0]
    upright[PLACES[hanger[1]]] = -lean_of(hanger)
    numbers = product(plain(four), tuple(upright))
    with_last = (numbers[PLACES[hanger[0]]], numbers[0])
    against_last = (hand_of(hanger) * numbers[PLACES[third_letter(hanger)]], numbers[PLACES[hanger[1]]])
    return (with_last, against_last)


def leaning(hanger, middle):
    return plain_setting(joined(middle, (lean_of(hanger), 1)))


def locked(hanger, parts):
    if parts[1] == (0, 0):
        return ("lock", leaning(hanger, (0, 1)), "with", plain_setting(parts[0]))
    return ("lock", leaning(hanger, (1, 0)), "against", plain_setting(parts[1]))


# Both parts divided by what the middle setting multiplies them by: they are
# equally long then, and first lies midway between them.
def settings_by(hanger, parts, middle):
    ahead = (parts[0][0] * middle[0], parts[0][1] * middle[0])
    behind = (parts[1][0] * middle[1], parts[1][1] * middle[1])
    first = (ahead[0] + behind[0], ahead[1] + behind[1])
    if first == (0, 0):
        # Then last is half a turn, and first what half a turn more makes the part.
        first = joined(ahead, (1, 0))
    last = joined(ahead, taken_back(first))
    return (plain_setting(first), leaning(hanger, middle), plain_setting(last))


def settings_of(hanger, four):
    refuse_no_hanger(hanger)
    parts = two_parts(hanger, four)
    length = sum_of_products(parts[0], parts[0])
    number = length * sum_of_products(parts[1], parts[1])
    if number == 0:
        return locked(hanger, parts)
    root = exact_root(number)
    if root is None:
        return ("none", number)
    both = sorted([settings_by(hanger, parts, (root, length)), settings_by(hanger, parts, (-root, length))])
    return ("set", both[0], both[1])
