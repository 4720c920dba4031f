"""The calls 20 to 26, which draw values by a distribution and tell its chances.

Each takes its numbers from the reader before anything else, so that a refused
call leaves the reader at the next one.
"""

from toldchance.chances import chance_below, hits_below, least_and_greatest, mean_and_variance, shares_of
from toldchance.checks import WRONG_BOUND, WRONG_LENGTH, WRONG_RAW, WRONG_STREAM
from toldchance.checks import is_length, is_stream, place_refusal, within
from toldchance.ratios import all_lowest, right_ratio
from toldchance.streams import RAW_NUMBERS


def value(bank, reader):
    d = reader.take()
    u = reader.take()
    refusal = place_refusal(bank, d)
    if refusal < 0:
        return [refusal]
    if not within(u, 0, RAW_NUMBERS - 1):
        return [WRONG_RAW]
    return [0] + two_numbers(bank.distributions[d].value_at(u).lowest())


def two_numbers(ratio):
    return [ratio.top, ratio.bottom]


def draw(bank, reader):
    d = reader.take()
    k = reader.take()
    refusal = place_refusal(bank, d)
    if refusal < 0:
        return [refusal]
    if not is_stream(k):
        return [WRONG_STREAM]
    return [0] + drawn(bank, d, k, 1)


def draws(bank, reader):
    d = reader.take()
    k = reader.take()
    n = reader.take()
    refusal = place_refusal(bank, d)
    if refusal < 0:
        return [refusal]
    if not is_stream(k):
        return [WRONG_STREAM]
    if not is_length(n):
        return [WRONG_LENGTH]
    return [0, n] + drawn(bank, d, k, n)


def drawn(bank, d, k, many):
    distribution = bank.distributions[d]
    stream = bank.streams[k]
    numbers = []
    for ratio in all_lowest([distribution.value_at(stream.raw_number()) for i in range(many)]):
        numbers.extend(two_numbers(ratio))
    return numbers


def shares(bank, reader):
    d = reader.take()
    refusal = place_refusal(bank, d)
    if refusal < 0:
        return [refusal]
    found = shares_of(bank.distributions[d])
    return [0, len(found)] + found


def moments(bank, reader):
    d = reader.take()
    refusal = place_refusal(bank, d)
    if refusal < 0:
        return [refusal]
    distribution = bank.distributions[d]
    answer = [0]
    for ratio in mean_and_variance(distribution) + least_and_greatest(distribution):
        answer.extend(two_numbers(ratio))
    return answer


def below(bank, reader):
    d = reader.take()
    p = reader.take()
    q = reader.take()
    strict = reader.take()
    refusal = below_refusal(bank, d, p, q, strict)
    if refusal < 0:
        return [refusal]
    return [0] + two_numbers(chance_below(bank.distributions[d], right_ratio(p, q), strict))


def hits(bank, reader):
    d = reader.take()
    p = reader.take()
    q = reader.take()
    strict = reader.take()
    refusal = below_refusal(bank, d, p, q, strict)
    if refusal < 0:
        return [refusal]
    return [0, hits_below(bank.distributions[d], right_ratio(p, q), strict)]


# 0 where nothing is to be refused.
def below_refusal(bank, d, p, q, strict):
    refusal = place_refusal(bank, d)
    if refusal < 0:
        return refusal
    if right_ratio(p, q) is None or not within(strict, 0, 1):
        return WRONG_BOUND
    return 0


VALUE_CALLS = {
    20: value,
    21: draw,
    22: draws,
    23: shares,
    24: moments,
    25: below,
    26: hits,
}


def answer_value_call(bank, place, reader):
    call = VALUE_CALLS[place]
    return call(bank, reader)
