"""Reckoning with rows of whole numbers and with fractions, shared by all modules."""


def common_divisor(numbers):
    divisor = 0
    for number in numbers:
        other = abs(number)
        while other != 0:
            left = divisor % other
            divisor = other
            other = left
    return divisor


# A fraction with its bottom above 0 is brought to lowest terms by this too:
# the signs stay, and (0, bottom) becomes (0, 1).
def reduced(numbers):
    divisor = common_divisor(numbers)
    return tuple([number // divisor for number in numbers])


def negated(numbers):
    return tuple([-number for number in numbers])


def row_sum(one, other):
    return tuple([left + right for left, right in zip(one, other)])


def row_difference(one, other):
    return tuple([left - right for left, right in zip(one, other)])


def sum_of_products(one, other):
    return sum([left * right for left, right in zip(one, other)])


def cross_product(one, other):
    return (
        one[1] * other[2] - one[2] * other[1],
        one[2] * other[0] - one[0] * other[2],
        one[0] * other[1] - one[1] * other[0],
    )


def first_filled(numbers):
    return [place for place, number in enumerate(numbers) if number != 0][0]


def common_multiple(numbers):
    multiple = 1
    for number in numbers:
        multiple = multiple // common_divisor((multiple, number)) * number
    return multiple


# Fractions as their tops over one bottom, not always in lowest terms: to find
# these takes long for great numbers, and is best done once, at the end.
def levelled(fractions):
    bottom = common_multiple([fraction[1] for fraction in fractions])
    return (tuple([fraction[0] * (bottom // fraction[1]) for fraction in fractions]), bottom)


def lowered(level):
    return tuple([reduced((top, level[1])) for top in level[0]])


def levels_added(one, other):
    tops = tuple([left * other[1] + right * one[1] for left, right in zip(one[0], other[0])])
    return (tops, one[1] * other[1])


def level_negated(level):
    return (negated(level[0]), level[1])


# Points as rows of their tops over one bottom for all of them.
def levelled_points(points):
    fractions = []
    for point in points:
        fractions.extend(point)
    level = levelled(fractions)
    rows = [level[0][place:place + 3] for place in range(0, len(fractions), 3)]
    return (rows, level[1])


def is_less(one, other):
    return one[0] * other[1] < other[0] * one[1]


def whole_root(number):
    if number == 0:
        return 0
    # From a guess no less than the root each step goes down, until it is there.
    guess = 1 << (number.bit_length() + 1) // 2
    better = (guess + number // guess) // 2
    while better < guess:
        guess = better
        better = (guess + number // guess) // 2
    return guess


def exact_root(number):
    root = whole_root(number)
    return root if root * root == number else None


# What a number that has no divisor in common with the modulus is to be
# multiplied by to leave 1. Beside each of Euclid's remainders stands the
# multiple of the number that leaves it.
def inverse(number, modulus):
    left = modulus
    right = number % modulus
    left_multiple = 0
    right_multiple = 1
    while right != 0:
        quotient = left // right
        remainder = left - quotient * right
        multiple = left_multiple - quotient * right_multiple
        left = right
        left_multiple = right_multiple
        right = remainder
        right_multiple = multiple
    return left_multiple % modulus
