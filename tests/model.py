"""Distributions by the document's words, worked out with Python's own fractions.

A class is (weight, "line", x, y) or (weight, "comb", x, step, teeth); a distribution is
a list of them. What the words call a raw number is u here.
"""

from fractions import Fraction
from math import ceil, floor

RAW_NUMBERS = 2 ** 32


def line(weight, x, y):
    return (weight, "line", Fraction(x), Fraction(y))


def comb(weight, x, step, teeth):
    return (weight, "comb", Fraction(x), Fraction(step), teeth)


def point(weight, x):
    return comb(weight, x, 0, 1)


def pair(fraction):
    return [fraction.numerator, fraction.denominator]


def rows(classes):
    """The rows A and B by which define takes the distribution as kind 5."""
    numbers = []
    for one in classes:
        if one[1] == "line":
            numbers += [0] + pair(one[2]) + pair(one[3]) + [0]
        else:
            numbers += [1] + pair(one[2]) + pair(one[3]) + [one[4]]
    return [one[0] for one in classes], numbers


def told(classes):
    weights, numbers = rows(classes)
    return [0, len(weights)] + weights + [len(numbers)] + numbers


def total(classes):
    return sum(one[0] for one in classes)


def value(classes, u):
    before = 0
    for one in classes:
        if u * total(classes) < RAW_NUMBERS * (before + one[0]):
            t = u * total(classes) - RAW_NUMBERS * before
            assert 0 <= t < RAW_NUMBERS * one[0]
            part = Fraction(t, RAW_NUMBERS * one[0])
            if one[1] == "line":
                return one[2] + (one[3] - one[2]) * part
            return one[2] + one[3] * floor(part * one[4])
        before += one[0]
    raise AssertionError("no class is taken")


def bounds(classes):
    """For each class the first raw number at which it or one behind it is taken, and the end."""
    reached = 0
    found = [0]
    for one in classes:
        reached += one[0]
        found.append(ceil(Fraction(RAW_NUMBERS * reached, total(classes))))
    return found


def shares(classes):
    found = bounds(classes)
    return [end - start for start, end in zip(found, found[1:])]


def moments(classes):
    mean = square = Fraction(0)
    ends = []
    for one in classes:
        part = Fraction(one[0], total(classes))
        x = one[2]
        if one[1] == "line":
            last = one[3]
            square += part * (x * x + x * last + last * last) / 3
        else:
            step, teeth = one[3:]
            last = x + step * (teeth - 1)
            # The sums of i and of i i for i from 0 to teeth - 1.
            first_sum = Fraction(teeth * (teeth - 1), 2)
            second_sum = Fraction(teeth * (teeth - 1) * (2 * teeth - 1), 6)
            square += part * (teeth * x * x + 2 * x * step * first_sum + step * step * second_sum) / teeth
        mean += part * (x + last) / 2
        if one[0] > 0:
            ends += [x, last]
    return [mean, square - mean * mean, min(ends), max(ends)]


def teeth_below(one, v, strict):
    x, step, teeth = one[2:]
    if step == 0:
        return teeth if x < v or (x == v and not strict) else 0
    place = (v - x) / step
    if step > 0:
        reached = ceil(place) if strict else floor(place) + 1
        return max(0, min(teeth, reached))
    # The teeth fall: the first that counts is the first beyond the place, or at it.
    first = floor(place) + 1 if strict else ceil(place)
    return teeth - max(0, min(teeth, first))


def below(classes, v, strict):
    chance = Fraction(0)
    for one in classes:
        if one[1] == "comb":
            part = Fraction(teeth_below(one, v, strict), one[4])
        elif one[2] == one[3]:
            part = 1 if one[2] < v or (one[2] == v and not strict) else 0
        else:
            lesser, greater = sorted(one[2:])
            part = min(Fraction(1), max(Fraction(0), (v - lesser) / (greater - lesser)))
        chance += Fraction(one[0], total(classes)) * part
    return chance


def hits(classes, v, strict):
    """Class by class, from the raw number at which the value would be v just so."""
    found = 0
    before = 0
    for one, start, end in zip(classes, bounds(classes), bounds(classes)[1:]):
        if start < end:
            found += hits_of_class(one, before, total(classes), start, end, v, strict)
        before += one[0]
    return found


def hits_of_class(one, before, weights, start, end, v, strict):
    def raw_at(part):
        return (before + one[0] * part) * RAW_NUMBERS / Fraction(weights)

    step = one[3] - one[2] if one[1] == "line" else one[3]
    if step == 0:
        return end - start if one[2] < v or (one[2] == v and not strict) else 0
    if one[1] == "comb":
        reached = Fraction(teeth_below(one, v, strict), one[4])
        if step > 0:
            return ceil(raw_at(reached)) - start
        return end - ceil(raw_at(1 - reached))
    turn = raw_at((v - one[2]) / step)
    if step > 0:
        first_out = ceil(turn) if strict else floor(turn) + 1
        return min(end, max(start, first_out)) - start
    first_in = floor(turn) + 1 if strict else ceil(turn)
    return end - min(end, max(start, first_in))
