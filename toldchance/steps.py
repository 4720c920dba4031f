"""The states that follow one another, and the way from one to another.

A Leap is some number of steps made at once: it leads from state x to the state
factor x + summand, modulo 2^64. leap_of takes steps below 0 as steps backwards.
"""

STATES = 18446744073709551616
FACTOR = 6364136223846793005
SUMMAND = 1442695040888963407


class Leap:
    def __init__(self, factor, summand):
        self.factor = factor
        self.summand = summand

    def landing(self, state):
        return (self.factor * state + self.summand) % STATES

    def then(self, other):
        return Leap(self.factor * other.factor % STATES, other.landing(self.summand))


def leap_of(steps):
    # After 2^64 steps every state is back, so only the remainder has to be gone,
    # and steps backwards become steps forwards.
    left = steps % STATES
    leap = Leap(1, 0)
    power = Leap(FACTOR, SUMMAND)
    while left > 0:
        if left % 2 == 1:
            leap = leap.then(power)
        power = power.then(power)
        left = left // 2
    return leap


def distance(start, end):
    # A leap of 2^j steps changes bit j of a state and leaves the bits below it as
    # they are, so the bits are put right one by one from the lowest.
    state = start
    power = Leap(FACTOR, SUMMAND)
    bit = 1
    steps = 0
    while state != end:
        if (state & bit) != (end & bit):
            state = power.landing(state)
            steps += bit
        power = power.then(power)
        bit = bit * 2
    return steps
