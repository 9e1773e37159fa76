"""Words over fours, and the few turns that a group can have."""

from hangrings.axes import comes_back
from hangrings.fours import NOTHING, plain, product, then, turned

MOST_TURNS = 24
# A great prime; which one it is doesn't matter.
MODULUS = 170141183460469231731687303715884105727


# Parted in the middle, so that great numbers are seldom brought to lowest terms.
def word_turn(fours, word):
    if len(word) == 0:
        return NOTHING
    if len(word) == 1:
        return plain(fours[word[0]])
    middle = len(word) // 2
    return then(word_turn(fours, word[:middle]), word_turn(fours, word[middle:]))


# Turns without end hold one that never comes back. Found here is one of as few
# places as can be.
def group_of(fours):
    words = {NOTHING: ()}
    edge = [NOTHING]
    while len(edge) > 0:
        beyond = []
        for turn in edge:
            for place, four in enumerate(fours):
                made = then(turn, four)
                if made not in words:
                    words[made] = words[turn] + (place,)
                    beyond.append(made)
                    if comes_back(made) is None:
                        return ("endless", beginnings(words[made]))
        edge = beyond
    return ("group", sorted(words))


# Every shorter word comes back, and none that lies within the word said again
# and again moves nothing, else a shorter one would never come back either. So
# what lies between two beginnings moves something, and they make unlike turns.
def beginnings(word):
    row = word * MOST_TURNS
    return [row[:length] for length in range(MOST_TURNS + 1)]


def is_word(fours, word):
    return all([0 <= place and place < len(fours) for place in word])


# Multiples of the word's four leave multiples: so where remainders are none of
# one another, the turns are unlike, and great numbers needn't be reckoned out.
def remainders(fours, word):
    left = NOTHING
    for place in word:
        left = tuple([number % MODULUS for number in product(fours[place], left)])
    return left


def may_be_alike(one, other):
    for i in range(4):
        for j in range(i):
            if (one[i] * other[j] - one[j] * other[i]) % MODULUS != 0:
                return False
    return True


def are_alike(fours, one, other):
    return one == other or word_turn(fours, one) == word_turn(fours, other)


def are_unlike(fours, words):
    if len(words) <= MOST_TURNS or not all([is_word(fours, word) for word in words]):
        return False
    looked_at = []
    for word in words:
        left = remainders(fours, word)
        for other_word, other_left in looked_at:
            if may_be_alike(left, other_left) and are_alike(fours, word, other_word):
                return False
        looked_at.append((word, left))
    return True


# Of a group a few turns make all the others; the list is a group where it is
# just what these make. What they make has the turn that moves nothing, no two
# alike, and at most 24.
def is_group(fours):
    turns = sorted([plain(four) for four in fours])
    makers = []
    made = [NOTHING]
    for turn in turns:
        if turn not in made:
            makers.append(turn)
            told = group_of(makers)
            if told[0] == "endless":
                return False
            made = told[1]
    return made == turns


def counts(fours):
    many = {}
    for four in fours:
        count = comes_back(four)
        many[count] = many.get(count, 0) + 1
    return sorted(many.items())


def images(fours, point):
    return sorted(set([turned(four, point) for four in fours]))


def stays(fours, point):
    return sorted([plain(four) for four in fours if turned(four, point) == point])
