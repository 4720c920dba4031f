"""What the tests share: calls by name, and the document's words worked out step by step."""

import unittest

from tests.model import rows
from toldchance.bank import answers

SEED, RAW, RAWS, SKIP, BACK, MIRROR, WHERE, FAR, GOTO, COPY, SPACE = range(11)
WHOLE, CHOOSE, SHUFFLE, SAMPLE, MIX, LOTS = range(11, 17)
DEFINE, FORGET, TOLD, VALUE, DRAW, DRAWS, SHARES, MOMENTS, BELOW, HITS, BLEND, BEND = range(17, 29)

STATES = 2 ** 64
RAW_NUMBERS = 2 ** 32
FACTOR = 6364136223846793005
SUMMAND = 1442695040888963407
UNDO = pow(FACTOR, -1, STATES)
HUGE = 10 ** 41
MOST = 10 ** 18
HALF = RAW_NUMBERS // 2
LAST = RAW_NUMBERS - 1

# Numbers that no stream and no place of a distribution has.
NOWHERE = (-1, 64, -HUGE, HUGE)


def follow(state, steps=1):
    for _ in range(steps):
        state = (FACTOR * state + SUMMAND) % STATES
    return state


def precede(state, steps=1):
    for _ in range(steps):
        state = (state - SUMMAND) * UNDO % STATES
    return state


def jump(state, steps):
    """So many steps by the closed form of the sum, not by doubling."""
    modulus = STATES * (FACTOR - 1)
    power = pow(FACTOR, steps, modulus)
    return (power * state + SUMMAND * ((power - 1) % modulus // (FACTOR - 1))) % STATES


def raw_numbers(state, many):
    numbers = []
    for _ in range(many):
        state = follow(state)
        numbers.append(state >> 32)
    return numbers


def state_for(u):
    """A state after which the raw number, with mirror 0, is u."""
    return precede(u * RAW_NUMBERS + 12345)


def flat(calls):
    numbers = []
    for call in calls:
        for part in call:
            if isinstance(part, list):
                numbers.append(len(part))
                numbers.extend(part)
            else:
                numbers.append(part)
    return numbers


def ask(*calls):
    """The answers to the calls, a list for each; a row of a call is a list within it."""
    numbers = answers(flat(calls))
    assert type(numbers) is list and all(type(number) is int for number in numbers)
    parts = []
    place = 0
    while place < len(numbers):
        end = place + 1 + numbers[place]
        assert place + 1 < end <= len(numbers)
        parts.append(numbers[place + 1:end])
        place = end
    assert len(parts) == len(calls)
    return parts


def defined(d, classes):
    """The call that defines place d as the classes of tests.model."""
    return (DEFINE, d, 5, *rows(classes))


EVERYWHERE = [(WHERE, k) for k in range(64)]
EVERYTHING = EVERYWHERE + [(TOLD, d) for d in range(64)]

# Streams and places that differ in all they have, so that a change of any shows. Of the
# places 0, 5 and 63 are filled, the others are empty.
UNEVEN = [
    (SEED, 0, 99), (RAWS, 0, 3), (MIRROR, 0, 1), (SKIP, 5, 10 ** 19), (BACK, 63, 7), (MIRROR, 63, 1),
    (DEFINE, 0, 0, [-7, 3], []),
    (DEFINE, 5, 5, [2, 0, 3], [0, 1, 2, -5, 3, 0, 1, 9, 1, 1, 1, 4, 1, -8, 1, -2, 7, 12]),
    (DEFINE, 63, 9, [2, 6], []),
]


class CallTest(unittest.TestCase):
    def answered(self, expected, *calls):
        """The last call answers what is expected."""
        self.assertEqual(ask(*calls)[-1], expected)

    def refused(self, number, *call, given=()):
        """The call is refused with the number, and every stream and place stays as it is."""
        before = UNEVEN + list(given)
        calls = before + EVERYTHING + [call] + EVERYTHING
        parts = ask(*calls)
        start = len(before)
        end = start + len(EVERYTHING)
        self.assertEqual(parts[end], [number], call)
        self.assertEqual(parts[start:end], parts[end + 1:])

    def done(self, *call):
        """The call is not refused."""
        self.assertEqual(ask(*UNEVEN, call)[-1][0], 0)
