"""Ways that are led to ways by turns."""

from hangrings.axes import about, are_along, setting_between
from hangrings.fours import NOTHING, level_turned, plain, size, then
from hangrings.reckon import cross_product, exact_root, row_difference, row_sum, sum_of_products


def size_of(way):
    return sum_of_products(way, way)


# The size of the four times what the way is turned to, so that it stays whole.
def turned_way(four, way):
    return level_turned(four, (way, 1))[0]


def leads(one, other, four):
    reached = turned_way(four, one)
    return are_along(reached, other) and sum_of_products(reached, other) > 0


def upright_to(way):
    if way[0] == 0:
        return (1, 0, 0)
    return (way[1], -way[0], 0)


def led(one, other):
    number = size_of(one) * size_of(other)
    root = exact_root(number)
    if root is None:
        return ("none", number)
    ahead = root + sum_of_products(one, other)
    if ahead == 0:
        # Opposite ways: only half turns lead the one to the other.
        return ("led", plain((0,) + upright_to(one)))
    return ("led", plain((ahead,) + cross_product(one, other)))


def times(number, way):
    return tuple([number * entry for entry in way])


# The first way is led, and then a turn about the third, which leaves the
# first where it is now, has to lead the second.
def led_both(first, second, third, fourth):
    first_led = led(first, third)
    if first_led[0] == "none":
        return ("none", "first")
    root = exact_root(size_of(second) * size_of(fourth))
    if root is None:
        return ("none", "second")
    four = first_led[1]
    # Both brought to whole numbers by the four's and the fourth way's size.
    here = times(size_of(fourth), turned_way(four, second))
    there = times(root * size(four), fourth)
    setting = setting_between(third, here, there)
    if setting is None:
        return ("none", "between")
    return ("only", then(four, about(third, setting)))


# What a turn adds to a row is upright to its axis: so where two rows are added
# to in ways that don't lie along each other, these tell the axis. Of three rows
# that don't lie in one plane there are two such, or nothing is added at all.
def turn_of_three(rows, others):
    added = [row_difference(other, row) for row, other in zip(rows, others)]
    both = [row_sum(row, other) for row, other in zip(rows, others)]
    for pair in ((0, 1), (0, 2), (1, 2)):
        across = cross_product(added[pair[0]], added[pair[1]])
        if across != (0, 0, 0):
            return plain((sum_of_products(added[pair[0]], both[pair[1]]),) + across)
    return NOTHING


# The only turn that leads two rows of whole numbers, not along each other, to
# two others, which are as long and as far apart.
def turn_between(first, second, third, fourth):
    rows = (first, second, cross_product(first, second))
    return turn_of_three(rows, (third, fourth, cross_product(third, fourth)))
