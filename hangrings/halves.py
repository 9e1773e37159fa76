"""Halves of turns: what, done twice, makes a turn."""

from hangrings.fours import plain, size
from hangrings.reckon import exact_root


def half(four):
    whole = plain(four)
    root = exact_root(size(whole))
    if root is None:
        return None
    # The other one, with the root taken off, has no greater rest: a plain four
    # has no number below 0 ahead. Of half a turn x, y, z stay as they are in
    # the plain four, so the first of them is above 0.
    return plain((whole[0] + root,) + whole[1:])
