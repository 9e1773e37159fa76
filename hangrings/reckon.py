"""Reckoning with rows of whole numbers and with fractions, shared by all modules."""


def common_divisor(numbers):
    divisor = 0
    for number in numbers:
        other = abs(number)
        while other != 0:
            left = divisor % other
            divisor = other
            other = left
    return divisor


# A fraction with its bottom above 0 is brought to lowest terms by this too:
# the signs stay, and (0, bottom) becomes (0, 1).
def reduced(numbers):
    divisor = common_divisor(numbers)
    return tuple([number // divisor for number in numbers])


def negated(numbers):
    return tuple([-number for number in numbers])


def sum_of_products(one, other):
    return sum([left * right for left, right in zip(one, other)])


def common_multiple(numbers):
    multiple = 1
    for number in numbers:
        multiple = multiple // common_divisor((multiple, number)) * number
    return multiple


def tops_over(bottom, fractions):
    return tuple([fraction[0] * (bottom // fraction[1]) for fraction in fractions])


def whole_root(number):
    if number == 0:
        return 0
    # From a guess no less than the root each step goes down, until it is there.
    guess = 1 << (number.bit_length() + 1) // 2
    better = (guess + number // guess) // 2
    while better < guess:
        guess = better
        better = (guess + number // guess) // 2
    return guess
