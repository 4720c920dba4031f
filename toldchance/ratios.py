"""Fractions, told exactly.

A Ratio is top / bottom, the bottom at least 1; it need not be in lowest terms.
common_measure: the greatest number that divides both; b is at least 1.
right_ratio: the right fraction in lowest terms, or None where it is not right.
common_parts: numbers whose product is the least that all the bottoms divide.
lowest_over: top divided by all the factors, in lowest terms.
all_lowest: each of the ratios in lowest terms.
"""

from toldchance.checks import GREATEST_BOUND, is_bound

# More tops in a group would have more in common with their bottom, fewer would save less.
GROUP = 16


class Ratio:
    def __init__(self, top, bottom):
        self.top = top
        self.bottom = bottom

    def lowest(self):
        shared = common_measure(self.top, self.bottom)
        return Ratio(self.top // shared, self.bottom // shared)

    def times(self, other):
        return Ratio(self.top * other.top, self.bottom * other.bottom)

    def plus(self, other):
        return Ratio(self.top * other.bottom + other.top * self.bottom, self.bottom * other.bottom)

    def is_below(self, other):
        return self.top * other.bottom < other.top * self.bottom


def common_measure(a, b):
    larger = a
    smaller = b
    while smaller > 0:
        rest = larger % smaller
        larger = smaller
        smaller = rest
    return larger


def right_ratio(top, bottom):
    if bottom < 1:
        return None
    ratio = Ratio(top, bottom).lowest()
    if not is_bound(ratio.top) or ratio.bottom > GREATEST_BOUND:
        return None
    return ratio


def product(factors):
    result = 1
    for factor in factors:
        result = result * factor
    return result


def common_parts(bottoms):
    parts = []
    reached = 1
    for bottom in bottoms:
        part = bottom // common_measure(reached, bottom)
        parts.append(part)
        reached = reached * part
    return parts


def lowest_over(top, factors):
    # Factor by factor: the top may have thousands of digits, and a measure that it
    # has in common with a short number is found much faster than with a long one.
    left = top
    bottom = 1
    for factor in factors:
        shared = common_measure(left, factor)
        left = left // shared
        bottom = bottom * (factor // shared)
    return Ratio(left, bottom)


def all_lowest(ratios):
    results = list(ratios)
    places = sorted(range(len(ratios)), key=lambda i: ratios[i].bottom)
    start = 0
    while start < len(places):
        group = places_of_one_bottom(ratios, places, start)
        shared = measure_of_all([ratios[place] for place in group])
        for place in group:
            results[place] = lowest_within(ratios[place], shared)
        start += len(group)
    return results


def places_of_one_bottom(ratios, places, start):
    bottom = ratios[places[start]].bottom
    return [place for place in places[start:start + GROUP] if ratios[place].bottom == bottom]


# What any top has in common with the bottom, the product of all tops has in common
# with it too. That is mostly a short number, so that one long search for a common
# measure does for the whole group.
def measure_of_all(ratios):
    bottom = ratios[0].bottom
    tops = 1
    for ratio in ratios:
        tops = tops * ratio.top % bottom
    return common_measure(tops, bottom)


def lowest_within(ratio, shared):
    measure = common_measure(ratio.top, shared)
    return Ratio(ratio.top // measure, ratio.bottom // measure)
