"""The part of a turn that is about a told way, and the part upright to it."""

from hangrings.axes import about
from hangrings.fours import back, then
from hangrings.reckon import sum_of_products


def parted(way, four):
    along = sum_of_products(way, four[1:])
    if four[0] == 0 and along == 0:
        return ("lock",)
    twist = about(way, (along, four[0] * sum_of_products(way, way)))
    swing = then(back(twist), four)
    return ("parted", swing, twist)
