"""What is told of a distribution: shares, moments, the chance below v and the hits."""

from toldchance.ratios import common_parts, lowest_over, product


def shares_of(distribution):
    found = []
    start = 0
    for end in distribution.ends:
        found.append(end - start)
        start = end
    return found


def taken_classes(distribution):
    return [(weight, shape) for weight, shape in zip(distribution.weights, distribution.shapes) if weight > 0]


def mean_and_variance(distribution):
    # All is counted in whole numbers over one bottom, so that only the two sums at
    # the end have to be brought to lowest terms.
    classes = taken_classes(distribution)
    parts = common_parts([shape.bottom for weight, shape in classes])
    bottom = product(parts)
    squared = bottom * bottom
    means = 0
    squares = 0
    for weight, shape in classes:
        means += weight * shape.doubled_mean() * (bottom // shape.bottom)
        squares += weight * shape.sixfold_square() * (squared // (shape.bottom * shape.bottom))
    total = distribution.total
    mean = lowest_over(means, [2, total] + parts)
    variance = lowest_over(2 * total * squares - 3 * means * means, [12, total, total] + parts + parts)
    return [mean, variance]


def least_and_greatest(distribution):
    ends = []
    for weight, shape in taken_classes(distribution):
        ends.append(shape.x)
        ends.append(shape.far_end())
    least = ends[0]
    greatest = ends[0]
    for end in ends:
        if end.is_below(least):
            least = end
        if greatest.is_below(end):
            greatest = end
    return [least.lowest(), greatest.lowest()]


def chance_below(distribution, v, strict):
    chances = [(weight, shape.part_below(v, strict).lowest()) for weight, shape in taken_classes(distribution)]
    parts = common_parts([chance.bottom for weight, chance in chances])
    bottom = product(parts)
    reached = 0
    for weight, chance in chances:
        reached += weight * chance.top * (bottom // chance.bottom)
    return lowest_over(reached, parts + [distribution.total])


def hits_below(distribution, v, strict):
    found = 0
    start = 0
    for place in range(len(distribution.ends)):
        end = distribution.ends[place]
        if start < end:
            found += hits_in_class(distribution, place, start, v, strict)
        start = end
    return found


# In a class the values rise all along or fall all along, so what is true of a value
# and v turns at one raw number at most.
def hits_in_class(distribution, place, start, v, strict):
    end = distribution.ends[place]
    low = start
    high = end - 1
    at_first = is_hit(distribution, place, low, v, strict)
    if at_first == is_hit(distribution, place, high, v, strict):
        return end - start if at_first else 0
    while high - low > 1:
        middle = (low + high) // 2
        if is_hit(distribution, place, middle, v, strict) == at_first:
            low = middle
        else:
            high = middle
    return high - start if at_first else end - high


def is_hit(distribution, place, u, v, strict):
    value = distribution.value_in(place, u)
    if strict == 1:
        return value.is_below(v)
    return not v.is_below(value)
