"""The bank of streams, and the answers to the calls on a new one."""

from toldchance.checks import STREAMS
from toldchance.drawcalls import answer_draw_call
from toldchance.reader import Reader
from toldchance.streamcalls import answer_stream_call, is_stream_call
from toldchance.streams import Stream


class Bank:
    def __init__(self):
        self.streams = [Stream(k) for k in range(STREAMS)]


def answers(calls):
    bank = Bank()
    reader = Reader(calls)
    answered = []
    while not reader.at_end():
        answer = answer_call(bank, reader)
        answered.append(len(answer))
        answered.extend(answer)
    return answered


def answer_call(bank, reader):
    place = reader.take()
    if is_stream_call(place):
        return answer_stream_call(bank, place, reader)
    return answer_draw_call(bank, place, reader)
