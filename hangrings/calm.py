"""Ways of turning little at a time, from stand to stand."""

from hangrings.fours import size
from hangrings.reckon import is_less, reduced, sum_of_products


# Of the turn that makes the one stand the other. Not in lowest terms, since
# most of these are only held against one another.
def rest_between(one, other):
    ahead = sum_of_products(one, other)
    return (ahead * ahead, size(one) * size(other))


def step(stands, one, other):
    return reduced(rest_between(stands[one], stands[other]))


def places_beyond(stands, inside):
    return [place for place in range(len(stands)) if place not in inside]


# The places, one inside and one beyond, with the greatest rest between them.
def nearest_beyond(stands, inside):
    best = None
    most = (-1, 1)
    for one in inside:
        for other in places_beyond(stands, inside):
            rest = rest_between(stands[one], stands[other])
            if is_less(most, rest):
                best = (one, other)
                most = rest
    return best


# What stands nearest is taken in, again and again, until the other place is in.
# When the least of all these steps was taken, none out of what was inside then
# was greater: so no way to the other place has only greater ones.
def calm(stands, one, other):
    if one == other:
        return ([one], (1, 1), [])
    inside = [one]
    ahead = {}
    split = []
    least = (2, 1)
    while other not in inside:
        pair = nearest_beyond(stands, inside)
        rest = rest_between(stands[pair[0]], stands[pair[1]])
        if is_less(rest, least):
            least = rest
            split = list(inside)
        ahead[pair[1]] = pair[0]
        inside.append(pair[1])
    return (traced(ahead, one, other), reduced(least), split)


def traced(ahead, one, other):
    places = [other]
    while places[-1] != one:
        places.append(ahead[places[-1]])
    return list(reversed(places))


def are_places(stands, places):
    return len(set(places)) == len(places) and all([0 <= place and place < len(stands) for place in places])


def least_rest(stands, places):
    least = (1, 1)
    for one, other in zip(places, places[1:]):
        rest = rest_between(stands[one], stands[other])
        if is_less(rest, least):
            least = rest
    return reduced(least)


def is_split(stands, split, rest):
    for one in split:
        for other in places_beyond(stands, split):
            if is_less(rest, rest_between(stands[one], stands[other])):
                return False
    return True


def is_calm(stands, one, other, places, rest, split):
    if not are_places(stands, places) or not are_places(stands, split):
        return False
    if len(places) == 0 or places[0] != one or places[-1] != other:
        return False
    if one not in split or other in split:
        return False
    return least_rest(stands, places) == rest and is_split(stands, split, rest)


def lot_of(stands, first, rest):
    lot = [first]
    edge = [first]
    while len(edge) > 0:
        here = edge.pop()
        beyond = places_beyond(stands, lot)
        near = [place for place in beyond if not is_less(rest_between(stands[here], stands[place]), rest)]
        lot.extend(near)
        edge.extend(near)
    return sorted(lot)


def lots(stands, rest):
    found = []
    for place in range(len(stands)):
        if not any([place in lot for lot in found]):
            found.append(lot_of(stands, place, rest))
    return found
