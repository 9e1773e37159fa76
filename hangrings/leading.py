"""Ways that are led to ways by turns."""

from hangrings.axes import about, are_along, setting_between
from hangrings.fours import level_turned, plain, size, then
from hangrings.reckon import cross_product, exact_root, sum_of_products


def size_of(way):
    return sum_of_products(way, way)


# The size of the four times what the way is turned to, so that it stays whole.
def turned_way(four, way):
    return level_turned(four, (way, 1))[0]


def leads(one, other, four):
    reached = turned_way(four, one)
    return are_along(reached, other) and sum_of_products(reached, other) > 0


def upright_to(way):
    if way[0] == 0:
        return (1, 0, 0)
    return (way[1], -way[0], 0)


def led(one, other):
    number = size_of(one) * size_of(other)
    root = exact_root(number)
    if root is None:
        return ("none", number)
    ahead = root + sum_of_products(one, other)
    if ahead == 0:
        # Opposite ways: only half turns lead the one to the other.
        return ("led", plain((0,) + upright_to(one)))
    return ("led", plain((ahead,) + cross_product(one, other)))


def times(number, way):
    return tuple([number * entry for entry in way])


# The first way is led, and then a turn about the third, which leaves the
# first where it is now, has to lead the second.
def led_both(first, second, third, fourth):
    first_led = led(first, third)
    if first_led[0] == "none":
        return ("none", "first")
    root = exact_root(size_of(second) * size_of(fourth))
    if root is None:
        return ("none", "second")
    four = first_led[1]
    # Both brought to whole numbers by the four's and the fourth way's size.
    here = times(size_of(fourth), turned_way(four, second))
    there = times(root * size(four), fourth)
    setting = setting_between(third, here, there)
    if setting is None:
        return ("none", "between")
    return ("only", then(four, about(third, setting)))
