"""A stream: where it is, where it began, how far it has come."""

from toldchance.steps import FACTOR, STATES, SUMMAND, leap_of

RAW_NUMBERS = 4294967296


class Stream:
    def __init__(self, seed):
        self.state = seed
        self.seed = seed
        self.count = 0
        self.mirror = 0

    def twin(self):
        other = Stream(self.seed)
        other.state = self.state
        other.count = self.count
        other.mirror = self.mirror
        return other

    def move(self, steps):
        self.state = leap_of(steps).landing(self.state)
        self.count += steps

    def raw_number(self):
        self.state = (FACTOR * self.state + SUMMAND) % STATES
        self.count += 1
        number = self.state // RAW_NUMBERS
        if self.mirror == 1:
            return RAW_NUMBERS - 1 - number
        return number
