"""The calls 0 to 10, which place, move and show the streams.

Each takes its numbers from the reader before anything else, so that a refused
call leaves the reader at the next one.
"""

from toldchance.checks import STREAMS, WRONG_LENGTH, WRONG_MIRROR, WRONG_STEPS, WRONG_STREAM
from toldchance.checks import is_length, is_steps, is_stream, within
from toldchance.steps import distance, leap_of
from toldchance.streams import Stream


def seed(bank, reader):
    k = reader.take()
    s = reader.take()
    if not is_stream(k):
        return [WRONG_STREAM]
    if not is_steps(s):
        return [WRONG_STEPS]
    bank.streams[k] = Stream(s)
    return [0]


def raw(bank, reader):
    k = reader.take()
    if not is_stream(k):
        return [WRONG_STREAM]
    return [0, bank.streams[k].raw_number()]


def raws(bank, reader):
    k = reader.take()
    n = reader.take()
    if not is_stream(k):
        return [WRONG_STREAM]
    if not is_length(n):
        return [WRONG_LENGTH]
    stream = bank.streams[k]
    return [0, n] + [stream.raw_number() for i in range(n)]


def skip(bank, reader):
    k = reader.take()
    n = reader.take()
    return moved(bank, k, n, n)


def back(bank, reader):
    k = reader.take()
    n = reader.take()
    return moved(bank, k, n, -n)


# The range is asked of n as it was handed in, as steps backwards are below 0.
def moved(bank, k, n, steps):
    if not is_stream(k):
        return [WRONG_STREAM]
    if not is_steps(n):
        return [WRONG_STEPS]
    bank.streams[k].move(steps)
    return [0]


def mirror(bank, reader):
    k = reader.take()
    b = reader.take()
    if not is_stream(k):
        return [WRONG_STREAM]
    if not within(b, 0, 1):
        return [WRONG_MIRROR]
    stream = bank.streams[k]
    stream.mirror = b
    return [0]


def where(bank, reader):
    k = reader.take()
    if not is_stream(k):
        return [WRONG_STREAM]
    stream = bank.streams[k]
    return [0, stream.state, stream.seed, stream.count, stream.mirror]


def far(bank, reader):
    x = reader.take()
    y = reader.take()
    if not is_steps(x) or not is_steps(y):
        return [WRONG_STEPS]
    return [0, distance(x, y)]


def goto(bank, reader):
    k = reader.take()
    y = reader.take()
    if not is_stream(k):
        return [WRONG_STREAM]
    if not is_steps(y):
        return [WRONG_STEPS]
    stream = bank.streams[k]
    n = distance(stream.state, y)
    stream.move(n)
    return [0, n]


def copy(bank, reader):
    k = reader.take()
    j = reader.take()
    if not is_stream(k) or not is_stream(j):
        return [WRONG_STREAM]
    bank.streams[k] = bank.streams[j].twin()
    return [0]


def space(bank, reader):
    k = reader.take()
    n = reader.take()
    g = reader.take()
    if not is_stream(k):
        return [WRONG_STREAM]
    if not within(n, 1, STREAMS - k):
        return [WRONG_LENGTH]
    if not is_steps(g):
        return [WRONG_STEPS]
    leap = leap_of(g)
    state = bank.streams[k].state
    for i in range(k + 1, k + n):
        state = leap.landing(state)
        bank.streams[i] = Stream(state)
    return [0]


STREAM_CALLS = {
    0: seed,
    1: raw,
    2: raws,
    3: skip,
    4: back,
    5: mirror,
    6: where,
    7: far,
    8: goto,
    9: copy,
    10: space,
}


def is_stream_call(place):
    return place in STREAM_CALLS


def answer_stream_call(bank, place, reader):
    call = STREAM_CALLS[place]
    return call(bank, reader)
