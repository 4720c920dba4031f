"""A distribution: a row of classes, each a weight and a shape.

A distribution is never changed once it is made, so places may share one's shapes.
distribution_of gives None where no distribution comes of the weights and shapes.
"""

from toldchance.checks import are_weights
from toldchance.streams import RAW_NUMBERS


class Distribution:
    def __init__(self, weights, shapes):
        self.weights = weights
        self.shapes = shapes
        self.total = sum(weights)
        self.before = sums_before(weights)
        self.ends = raw_ends(weights)

    def place_taken(self, u):
        low = 0
        high = len(self.ends) - 1
        while low < high:
            middle = (low + high) // 2
            if u < self.ends[middle]:
                high = middle
            else:
                low = middle + 1
        return low

    def value_in(self, place, u):
        t = u * self.total - RAW_NUMBERS * self.before[place]
        return self.shapes[place].at(t, RAW_NUMBERS * self.weights[place])

    def value_at(self, u):
        return self.value_in(self.place_taken(u), u)


def sums_before(weights):
    sums = []
    reached = 0
    for weight in weights:
        sums.append(reached)
        reached += weight
    return sums


# For each class the first raw number behind it; one that is never taken ends where
# the one before it ends.
def raw_ends(weights):
    ends = []
    total = sum(weights)
    reached = 0
    for weight in weights:
        reached += weight
        ends.append(rounded_up(RAW_NUMBERS * reached, total))
    return ends


def rounded_up(top, bottom):
    return -(-top // bottom)


def distribution_of(weights, shapes):
    if not are_weights(weights):
        return None
    if any([shape is None for shape in shapes]):
        return None
    return Distribution(weights, shapes)


def blended(one, v, other, w):
    weights = [weight * v * other.total for weight in one.weights]
    weights = weights + [weight * w * one.total for weight in other.weights]
    return distribution_of(weights, one.shapes + other.shapes)


def bent(distribution, factor, summand):
    shapes = [shape.bent(factor, summand) for shape in distribution.shapes]
    return distribution_of(distribution.weights, shapes)
