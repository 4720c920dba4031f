"""The bank of streams and distributions, and the answers to the calls on a new one.

A place of distributions that is empty holds None.
"""

from toldchance.checks import PLACES, STREAMS
from toldchance.drawcalls import answer_draw_call, is_draw_call
from toldchance.placecalls import answer_place_call, is_place_call
from toldchance.reader import Reader
from toldchance.streamcalls import answer_stream_call, is_stream_call
from toldchance.streams import Stream
from toldchance.valuecalls import answer_value_call


class Bank:
    def __init__(self):
        self.streams = [Stream(k) for k in range(STREAMS)]
        self.distributions = [None] * PLACES


def answers(calls):
    bank = Bank()
    reader = Reader(calls)
    answered = []
    while not reader.at_end():
        answer = answer_call(bank, reader)
        answered.append(len(answer))
        answered.extend(answer)
    return answered


def answer_call(bank, reader):
    place = reader.take()
    if is_stream_call(place):
        return answer_stream_call(bank, place, reader)
    if is_draw_call(place):
        return answer_draw_call(bank, place, reader)
    if is_place_call(place):
        return answer_place_call(bank, place, reader)
    return answer_value_call(bank, place, reader)
