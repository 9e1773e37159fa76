"""Motions: a turn about the middle, and then a point that is added; and screws."""

from hangrings.axes import about, axis, setting_about
from hangrings.fours import back, level_turned, then
from hangrings.leading import size_of, times, turn_between
from hangrings.reckon import (
    cross_product, level_negated, levelled, levelled_points, levels_added, lowered, reduced, row_difference,
    sum_of_products,
)

PAIRS = ((0, 1), (0, 2), (1, 2))


def moved(motion, point):
    return lowered(levels_added(level_turned(motion[0], levelled(point)), levelled(motion[1])))


def and_then(one, other):
    return (then(one[0], other[0]), moved(other, one[1]))


def undone(motion):
    taken_back = back(motion[0])
    return (taken_back, lowered(level_negated(level_turned(taken_back, levelled(motion[1])))))


# Both brought to one bottom, so that lengths can be held against one another.
def on_one_level(points, others):
    here = levelled_points(points)
    there = levelled_points(others)
    return ([times(there[1], row) for row in here[0]], [times(here[1], row) for row in there[0]])


def led_three(points, others):
    rows = on_one_level(points, others)
    ways = [row_difference(rows[0][pair[1]], rows[0][pair[0]]) for pair in PAIRS]
    other_ways = [row_difference(rows[1][pair[1]], rows[1][pair[0]]) for pair in PAIRS]
    for pair, way, other_way in zip(PAIRS, ways, other_ways):
        if size_of(way) != size_of(other_way):
            return ("none", pair[0], pair[1])
    four = turn_between(ways[0], ways[1], other_ways[0], other_ways[1])
    return ("only", (four, shift_to(four, levelled(points[0]), levelled(others[0]))))


# What has to be added behind the turn to lead the one to the other.
def shift_to(four, one, other):
    return lowered(levels_added(other, level_negated(level_turned(four, one))))


# What the motion adds upright to the way leads from one point of a circle about
# the foot to another: the foot is half of it on, and then upright to it, the
# farther, the less is turned.
def foot_of(way, setting, level):
    length = size_of(way)
    along = sum_of_products(way, level[0])
    upright = [length * top - along * entry for top, entry in zip(level[0], way)]
    across = cross_product(way, level[0])
    tops = [setting[0] * one + setting[1] * other for one, other in zip(upright, across)]
    return lowered((tuple(tops), 2 * setting[0] * length * level[1]))


def screw_of(motion):
    way = axis(motion[0])
    if way is None:
        return ("slide", motion[1])
    # The axis points so that k is above 0 here.
    setting = setting_about(way, motion[0])
    level = levelled(motion[1])
    slide = reduced((sum_of_products(way, level[0]), size_of(way) * level[1]))
    return ("screw", way, foot_of(way, setting, level), slide, setting)


def screwed(way, foot, slide, setting):
    four = about(way, setting)
    level = levelled(foot)
    return (four, shift_to(four, level, levels_added(level, (times(slide[0], way), slide[1]))))
