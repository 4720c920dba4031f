"""The calls 11 to 16, which draw whole numbers, places and rows from a stream.

Each takes its numbers and rows from the reader before anything else, so that a
refused call leaves the reader at the next one.
"""

from toldchance.checks import WRONG_BOUND, WRONG_LENGTH, WRONG_PART, WRONG_STREAM, WRONG_WEIGHTS
from toldchance.checks import are_weights, is_bound, is_length, is_stream, within
from toldchance.drawing import chosen_place, lots_drawn, portion, shuffled


def whole(bank, reader):
    k = reader.take()
    a = reader.take()
    b = reader.take()
    if not is_stream(k):
        return [WRONG_STREAM]
    if not is_bound(a) or not is_bound(b) or a > b:
        return [WRONG_BOUND]
    u = bank.streams[k].raw_number()
    return [0, a + portion(u, b - a + 1)]


def choose(bank, reader):
    k = reader.take()
    weights = reader.take_row()
    if not is_stream(k):
        return [WRONG_STREAM]
    if not are_weights(weights):
        return [WRONG_WEIGHTS]
    u = bank.streams[k].raw_number()
    return [0, chosen_place(u, weights)]


def shuffle(bank, reader):
    k = reader.take()
    n = reader.take()
    if not is_stream(k):
        return [WRONG_STREAM]
    if not is_length(n):
        return [WRONG_LENGTH]
    return [0, n] + shuffled(bank.streams[k], list(range(n)), n)


def sample(bank, reader):
    k = reader.take()
    n = reader.take()
    m = reader.take()
    if not is_stream(k):
        return [WRONG_STREAM]
    if not is_length(n):
        return [WRONG_LENGTH]
    if not within(m, 0, n):
        return [WRONG_PART]
    return [0, m] + shuffled(bank.streams[k], list(range(n)), m)


def mix(bank, reader):
    k = reader.take()
    row = reader.take_row()
    if not is_stream(k):
        return [WRONG_STREAM]
    if not is_length(len(row)):
        return [WRONG_LENGTH]
    if not all([is_bound(number) for number in row]):
        return [WRONG_BOUND]
    return [0, len(row)] + shuffled(bank.streams[k], row, len(row))


def lots(bank, reader):
    k = reader.take()
    m = reader.take()
    weights = reader.take_row()
    if not is_stream(k):
        return [WRONG_STREAM]
    if not are_weights(weights):
        return [WRONG_WEIGHTS]
    if not within(m, 0, len([weight for weight in weights if weight > 0])):
        return [WRONG_PART]
    return [0, m] + lots_drawn(bank.streams[k], weights, m)


DRAW_CALLS = {
    11: whole,
    12: choose,
    13: shuffle,
    14: sample,
    15: mix,
    16: lots,
}


def is_draw_call(place):
    return place in DRAW_CALLS


def answer_draw_call(bank, place, reader):
    call = DRAW_CALLS[place]
    return call(bank, reader)
