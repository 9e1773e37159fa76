"""The turns that keep a list of points: each is turned to one of them."""

from hangrings.axes import are_along
from hangrings.fours import level_turned
from hangrings.leading import size_of, times, turn_between
from hangrings.reckon import levelled_points, sum_of_products


# Two rows that don't lie on one line through the middle, or None.
def two_apart(rows):
    filled = [row for row in rows if row != (0, 0, 0)]
    for row in filled:
        if not are_along(filled[0], row):
            return (filled[0], row)
    return None


def keeps_rows(four, rows):
    turned_rows = [level_turned(four, (row, 1)) for row in rows]
    known = {}
    for row in rows:
        known[times(turned_rows[0][1], row)] = True
    return all([row[0] in known for row in turned_rows])


# All pairs of rows that are as long and as far apart as these two.
def pairs_like(pair, rows):
    firsts = [row for row in rows if size_of(row) == size_of(pair[0])]
    seconds = [row for row in rows if size_of(row) == size_of(pair[1])]
    between = sum_of_products(pair[0], pair[1])
    found = []
    for first in firsts:
        found.extend([(first, second) for second in seconds if sum_of_products(first, second) == between])
    return found


# A turn that keeps the points leads two of them to such a pair, and no other
# turn leads them there.
def keeps(points):
    rows = levelled_points(points)[0]
    pair = two_apart(rows)
    if pair is None:
        return ("line",)
    unlike = sorted(set(rows))
    turns = [turn_between(pair[0], pair[1], like[0], like[1]) for like in pairs_like(pair, unlike)]
    return ("some", sorted([turn for turn in turns if keeps_rows(turn, unlike)]))
