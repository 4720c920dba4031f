"""Makes lists of calls of all kinds, with a seed, so that they are the same each time."""

import random

from tests.support import HUGE, LAST, MOST, STATES, flat

FEW = (0, 1, 2, 3)


class Maker:
    """Makes calls that are mostly right, and wrong now and then."""

    def __init__(self, seed):
        self.chance = random.Random(seed)

    def one_of(self, *choices):
        return self.chance.choice(choices)

    def small(self):
        """A stream or a place; few of them, so that the calls meet."""
        if self.chance.random() < 0.02:
            return self.one_of(-1, 64, HUGE, -HUGE)
        return self.one_of(*FEW)

    def upto(self, most):
        """From 0 to most, mostly; the edges often."""
        if self.chance.random() < 0.03:
            return self.one_of(-1, most + 1, HUGE, -HUGE)
        return self.one_of(0, most, self.chance.randint(0, most), self.chance.randint(0, most))

    def length(self):
        return self.upto(1000) if self.chance.random() < 0.1 else self.chance.randint(0, 30)

    def bound(self):
        if self.chance.random() < 0.02:
            return self.one_of(MOST + 1, -MOST - 1, HUGE)
        most = self.one_of(3, 20, 1000, MOST)
        return self.one_of(0, most, -most, self.chance.randint(-most, most), self.chance.randint(-most, most))

    def fraction(self):
        if self.chance.random() < 0.01:
            return self.one_of([1, 0], [1, -1], [MOST + 1, 1], [1, MOST + 1], [HUGE, 3])
        factor = self.one_of(1, 1, 1, 2, 6, 10 ** 20)
        return [self.chance.randint(-9, 9) * factor if self.chance.random() < 0.7 else self.bound() * factor,
                self.one_of(1, 1, 2, 3, self.chance.randint(1, 20), self.chance.randint(1, MOST)) * factor]

    def weight(self):
        if self.chance.random() < 0.003:
            return -1
        return self.one_of(0, 1, 1, 2, 3, self.chance.randint(0, 100), self.chance.randint(0, self.one_of(10 ** 6, 10 ** 38)))

    def weights(self):
        many = self.one_of(1, 1, 2, 3, 4, 5, 6, self.chance.randint(0, 12))
        if self.chance.random() < 0.03:
            many = self.one_of(0, 64, 65)
        return [self.weight() for _ in range(many)]

    def shape(self):
        if self.chance.random() < 0.02:
            return [self.one_of(-1, 0, 1, 2)] + self.fraction() + self.fraction() + [self.one_of(-1, 0, 1, MOST + 1)]
        if self.chance.random() < 0.5:
            x = self.fraction()
            return [0] + x + self.one_of(x, self.fraction(), self.fraction(), self.fraction()) + [0]
        return [1] + self.fraction() + self.one_of([0, 1], [-1, 1], self.fraction()) + [self.one_of(1, 2, 3, 10, self.chance.randint(1, MOST), MOST)]

    def define(self):
        kind = self.one_of(0, 1, 2, 3, 4, 5, 5, 5, 5, 6, 7, 8, 9)
        if self.chance.random() < 0.02:
            kind = self.one_of(-1, 10)
        a, b = [], []
        if kind == 0:
            a = self.fraction()
        elif kind in (6, 7):
            a = self.one_of([self.upto(20), 1, 3], [self.upto(8), self.upto(7), 7], [self.upto(20), self.upto(100), 100])
        elif kind == 8:
            a = self.one_of([60, self.upto(60), self.upto(60)], [12, self.upto(12), self.upto(12)])
        elif kind == 9:
            a = [self.upto(6), 1 + self.upto(9)]
        elif kind == 1:
            a = sorted([self.bound(), self.bound()], reverse=self.chance.random() < 0.05)
        else:
            a = self.weights()
            for _ in a:
                b += {2: self.fraction, 3: self.fraction, 4: lambda: sorted([self.bound(), self.bound()]), 5: self.shape}.get(kind, self.fraction)()
            if kind == 3:
                b += self.fraction()
        if self.chance.random() < 0.02:
            self.one_of(a, b).append(1)
        return (17, self.small(), kind, a, b)

    def call(self):
        place = self.chance.choice([*range(29), 17, 17, 17, 20, 24, 25, 26, 27, 28])
        k, d = self.small(), self.small()
        return {
            0: lambda: (0, k, self.upto(STATES - 1)), 1: lambda: (1, k), 2: lambda: (2, k, self.length()),
            3: lambda: (3, k, self.upto(STATES - 1)), 4: lambda: (4, k, self.upto(STATES - 1)), 5: lambda: (5, k, self.upto(1)),
            6: lambda: (6, k), 7: lambda: (7, self.upto(STATES - 1), self.upto(STATES - 1)), 8: lambda: (8, k, self.upto(STATES - 1)),
            9: lambda: (9, k, self.small()), 10: lambda: (10, k, self.upto(4), self.upto(STATES - 1)),
            11: lambda: (11, k, *sorted([self.bound(), self.bound()])), 12: lambda: (12, k, self.weights()),
            13: lambda: (13, k, self.length()), 14: lambda: (14, k, self.length(), self.upto(20)),
            15: lambda: (15, k, [self.bound() for _ in range(self.chance.randint(0, 12))]), 16: lambda: (16, k, self.upto(3), self.weights()),
            17: self.define, 18: lambda: (18, d), 19: lambda: (19, d), 20: lambda: (20, d, self.upto(LAST)), 21: lambda: (21, d, k),
            22: lambda: (22, d, k, self.length()), 23: lambda: (23, d), 24: lambda: (24, d),
            25: lambda: (25, d, *self.fraction(), self.upto(1)), 26: lambda: (26, d, *self.fraction(), self.upto(1)),
            27: lambda: (27, d, self.small(), self.small(), self.one_of(0, 1, 2, 10 ** 9, -1), self.one_of(0, 1, 3, 7)),
            28: lambda: (28, d, self.small(), *self.fraction(), *self.fraction()),
        }[place]()

    def calls(self):
        """At most 400 calls, which take at most 7500 numbers together."""
        made = []
        while len(made) < 400:
            call = self.call()
            if len(flat(made + [call])) > 7500:
                break
            made.append(call)
        return made
