"""What define takes: the kinds 0 to 9, and the distribution that comes of each.

The kinds 0, 1 and 6 to 9 take so many numbers in A and none in B; the kinds 2 to 5
take weights in A and the shapes in B. Where no distribution comes of it, it is None.
"""

from toldchance.checks import is_bound, within
from toldchance.distributions import distribution_of
from toldchance.ratios import Ratio, right_ratio
from toldchance.shapes import comb_of, line_of

MOST_TRIES = 20
GREATEST_BOTTOM = 100
MOST_THINGS = 60
MOST_DICE = 6
MOST_SIDES = 10


def point(x):
    return comb_of(x, Ratio(0, 1), 1)


def whole_comb(a, b):
    if not is_bound(a) or not is_bound(b) or a > b:
        return None
    return comb_of(Ratio(a, 1), Ratio(1, 1), b - a + 1)


def points_from(first, weights):
    shapes = [point(Ratio(first + i, 1)) for i in range(len(weights))]
    return distribution_of(weights, shapes)


# A loop in the place of ** with an exponent that is not written; 0 to the 0 is 1.
def power(base, exponent):
    result = 1
    for i in range(exponent):
        result = result * base
    return result


# The ways to choose some of so many things; it comes to 0 where some is above many.
def ways(many, some):
    result = 1
    for i in range(some):
        result = result * (many - i) // (i + 1)
    return result


def one_point(numbers):
    return distribution_of([1], [point(right_ratio(numbers[0], numbers[1]))])


def one_comb(numbers):
    return distribution_of([1], [whole_comb(numbers[0], numbers[1])])


def are_tries(tries, p, q):
    return within(tries, 0, MOST_TRIES) and within(q, 1, GREATEST_BOTTOM) and within(p, 0, q)


def successes(numbers):
    n = numbers[0]
    p = numbers[1]
    q = numbers[2]
    if not are_tries(n, p, q):
        return None
    return points_from(0, [ways(n, i) * power(p, i) * power(q - p, n - i) for i in range(n + 1)])


def failures(numbers):
    m = numbers[0]
    p = numbers[1]
    q = numbers[2]
    if not are_tries(m, p, q):
        return None
    weights = [p * power(q - p, i) * power(q, m - 1 - i) for i in range(m)]
    return points_from(0, weights + [power(q - p, m)])


def marked_things(numbers):
    a = numbers[0]
    b = numbers[1]
    n = numbers[2]
    if not within(a, 0, MOST_THINGS) or not within(b, 0, a) or not within(n, 0, a):
        return None
    return points_from(0, [ways(b, i) * ways(a - b, n - i) for i in range(n + 1)])


def dice(numbers):
    n = numbers[0]
    s = numbers[1]
    if not within(n, 0, MOST_DICE) or not within(s, 1, MOST_SIDES):
        return None
    counts = [1]
    for i in range(n):
        counts = with_one_die_more(counts, s)
    return points_from(n, counts)


def with_one_die_more(counts, sides):
    result = [0] * (len(counts) + sides - 1)
    for i in range(len(counts)):
        for side in range(sides):
            result[i + side] += counts[i]
    return result


def points(many, numbers):
    return [point(ratio_in(numbers, 2 * i)) for i in range(many)]


def joined_lines(many, numbers):
    return [line_of(ratio_in(numbers, 2 * i), ratio_in(numbers, 2 * i + 2)) for i in range(many)]


def whole_combs(many, numbers):
    return [whole_comb(numbers[2 * i], numbers[2 * i + 1]) for i in range(many)]


def told_shapes(many, numbers):
    return [told_shape(numbers[6 * i:6 * i + 6]) for i in range(many)]


def told_shape(numbers):
    x = ratio_in(numbers, 1)
    other = ratio_in(numbers, 3)
    if numbers[0] == 0 and numbers[5] == 0:
        return line_of(x, other)
    if numbers[0] == 1:
        return comb_of(x, other, numbers[5])
    return None


def ratio_in(numbers, place):
    return right_ratio(numbers[place], numbers[place + 1])


BY_NUMBERS = {
    0: one_point,
    1: one_comb,
    6: successes,
    7: failures,
    8: marked_things,
    9: dice,
}

NUMBERS_TAKEN = {
    0: 2,
    1: 2,
    6: 3,
    7: 3,
    8: 3,
    9: 2,
}

BY_WEIGHTS = {
    2: points,
    3: joined_lines,
    4: whole_combs,
    5: told_shapes,
}

NUMBERS_A_CLASS = {
    2: 2,
    3: 2,
    4: 2,
    5: 6,
}

# Joined lines have one end more than there are lines.
NUMBERS_BEYOND = {
    2: 0,
    3: 2,
    4: 0,
    5: 0,
}


def defined(kind, a, b):
    if kind in BY_NUMBERS:
        return by_numbers(kind, a, b)
    if kind in BY_WEIGHTS:
        return by_weights(kind, a, b)
    return None


def by_numbers(kind, a, b):
    if len(a) != NUMBERS_TAKEN[kind] or len(b) > 0:
        return None
    make = BY_NUMBERS[kind]
    return make(a)


def by_weights(kind, a, b):
    if len(b) != NUMBERS_A_CLASS[kind] * len(a) + NUMBERS_BEYOND[kind]:
        return None
    make = BY_WEIGHTS[kind]
    return distribution_of(a, make(len(a), b))
