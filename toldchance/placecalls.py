"""The calls 17 to 19, 27 and 28, which fill, empty and tell the places of distributions.

Each takes its numbers and rows from the reader before anything else, so that a
refused call leaves the reader at the next one.
"""

from toldchance.checks import EMPTY_PLACE, GREATEST_FACTOR, NO_DISTRIBUTION, WRONG_BOUND, WRONG_PLACE, WRONG_WEIGHTS
from toldchance.checks import is_place, place_refusal, within
from toldchance.distributions import bent, blended
from toldchance.kinds import defined
from toldchance.ratios import right_ratio


def define(bank, reader):
    d = reader.take()
    kind = reader.take()
    a = reader.take_row()
    b = reader.take_row()
    if not is_place(d):
        return [WRONG_PLACE]
    return kept(bank, d, defined(kind, a, b))


def kept(bank, d, distribution):
    if distribution is None:
        return [NO_DISTRIBUTION]
    bank.distributions[d] = distribution
    return [0]


def forget(bank, reader):
    d = reader.take()
    refusal = place_refusal(bank, d)
    if refusal < 0:
        return [refusal]
    bank.distributions[d] = None
    return [0]


def told(bank, reader):
    d = reader.take()
    refusal = place_refusal(bank, d)
    if refusal < 0:
        return [refusal]
    distribution = bank.distributions[d]
    numbers = []
    for shape in distribution.shapes:
        numbers.extend(shape.told_numbers())
    return [0, len(distribution.weights)] + distribution.weights + [len(numbers)] + numbers


def blend(bank, reader):
    d = reader.take()
    e = reader.take()
    f = reader.take()
    v = reader.take()
    w = reader.take()
    if not is_place(d) or not is_place(e) or not is_place(f):
        return [WRONG_PLACE]
    one = bank.distributions[e]
    other = bank.distributions[f]
    if one is None or other is None:
        return [EMPTY_PLACE]
    if not within(v, 0, GREATEST_FACTOR) or not within(w, 0, GREATEST_FACTOR) or v + w == 0:
        return [WRONG_WEIGHTS]
    return kept(bank, d, blended(one, v, other, w))


def bend(bank, reader):
    d = reader.take()
    e = reader.take()
    p = reader.take()
    q = reader.take()
    r = reader.take()
    s = reader.take()
    if not is_place(d) or not is_place(e):
        return [WRONG_PLACE]
    distribution = bank.distributions[e]
    if distribution is None:
        return [EMPTY_PLACE]
    factor = right_ratio(p, q)
    summand = right_ratio(r, s)
    if factor is None or summand is None:
        return [WRONG_BOUND]
    return kept(bank, d, bent(distribution, factor, summand))


PLACE_CALLS = {
    17: define,
    18: forget,
    19: told,
    27: blend,
    28: bend,
}


def is_place_call(place):
    return place in PLACE_CALLS


def answer_place_call(bank, place, reader):
    call = PLACE_CALLS[place]
    return call(bank, reader)
