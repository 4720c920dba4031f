"""Every call by the document's words, slowly: what answers is held against in long lists."""

from fractions import Fraction
from math import comb as ways

from tests import model
from tests.support import FACTOR, MOST, RAW_NUMBERS, STATES, SUMMAND, jump


class Refusal(Exception):
    pass


def want(right, number):
    if not right:
        raise Refusal(number)


def fraction(p, q):
    """The right fraction p / q, or None."""
    if q < 1:
        return None
    result = Fraction(p, q)
    return result if abs(result.numerator) <= MOST and result.denominator <= MOST else None


def right_weights(weights):
    return 1 <= len(weights) <= 64 and all(weight >= 0 for weight in weights) and 1 <= sum(weights) <= 10 ** 40


def right_classes(classes):
    """The classes where they are a distribution, else a refusal."""
    want(right_weights([one[0] for one in classes]), -10)
    for one in classes:
        want(fraction(one[2].numerator, one[2].denominator) is not None, -10)
        want(fraction(one[3].numerator, one[3].denominator) is not None, -10)
        want(one[1] == "line" or 1 <= one[4] <= MOST, -10)
    return classes


def whole_comb(weight, a, b):
    want(-MOST <= a <= b <= MOST, -10)
    return model.comb(weight, a, 1, b - a + 1)


def told_class(weight, numbers):
    x, other = fraction(*numbers[1:3]), fraction(*numbers[3:5])
    want(x is not None and other is not None and numbers[0] in (0, 1), -10)
    if numbers[0] == 1:
        return model.comb(weight, x, other, numbers[5])
    want(numbers[5] == 0, -10)
    return model.line(weight, x, other)


def by_weights(kind, a, b):
    want(right_weights(a), -10)
    want(len(b) == (6 if kind == 5 else 2) * len(a) + (2 if kind == 3 else 0), -10)
    if kind == 4:
        return [whole_comb(weight, *b[2 * i:2 * i + 2]) for i, weight in enumerate(a)]
    if kind == 5:
        return [told_class(weight, b[6 * i:6 * i + 6]) for i, weight in enumerate(a)]
    values = [fraction(*b[i:i + 2]) for i in range(0, len(b), 2)]
    want(None not in values, -10)
    if kind == 2:
        return [model.point(weight, value) for weight, value in zip(a, values)]
    return [model.line(weight, x, y) for weight, x, y in zip(a, values, values[1:])]


def by_numbers(kind, a, b):
    want(b == [] and len(a) == {0: 2, 1: 2, 6: 3, 7: 3, 8: 3, 9: 2}[kind], -10)
    if kind == 0:
        want(fraction(*a) is not None, -10)
        return [model.point(1, fraction(*a))]
    if kind == 1:
        return [whole_comb(1, *a)]
    if kind in (6, 7):
        n, p, q = a
        want(0 <= n <= 20 and 1 <= q <= 100 and 0 <= p <= q, -10)
        if kind == 6:
            return [model.point(ways(n, i) * p ** i * (q - p) ** (n - i), i) for i in range(n + 1)]
        return [model.point(p * (q - p) ** i * q ** (n - 1 - i), i) for i in range(n)] + [model.point((q - p) ** n, n)]
    if kind == 8:
        things, marked, n = a
        want(0 <= things <= 60 and 0 <= marked <= things and 0 <= n <= things, -10)
        return [model.point(ways(marked, i) * ways(things - marked, n - i), i) for i in range(n + 1)]
    n, s = a
    want(0 <= n <= 6 and 1 <= s <= 10, -10)
    counts = {0: 1}
    for _ in range(n):
        more = {}
        for number, count in counts.items():
            for side in range(1, s + 1):
                more[number + side] = more.get(number + side, 0) + count
        counts = more
    return [model.point(counts[i], i) for i in range(n, n * s + 1)]


class Reference:
    def __init__(self):
        self.streams = [{"state": k, "seed": k, "count": 0, "mirror": 0} for k in range(64)]
        self.places = [None] * 64

    def answer(self, call):
        try:
            return [0] + getattr(self, f"call_{call[0]}")(*call[1:])
        except Refusal as refusal:
            return [refusal.args[0]]

    def raw_number(self, k):
        stream = self.streams[k]
        stream["state"] = (FACTOR * stream["state"] + SUMMAND) % STATES
        stream["count"] += 1
        number = stream["state"] // RAW_NUMBERS
        return RAW_NUMBERS - 1 - number if stream["mirror"] else number

    def stream(self, k):
        want(0 <= k <= 63, -1)
        return self.streams[k]

    def place(self, d):
        want(0 <= d <= 63, -8)
        want(self.places[d] is not None, -12)
        return self.places[d]

    def call_0(self, k, s):
        self.stream(k)
        want(0 <= s < STATES, -2)
        self.streams[k] = {"state": s, "seed": s, "count": 0, "mirror": 0}
        return []

    def call_1(self, k):
        self.stream(k)
        return [self.raw_number(k)]

    def call_2(self, k, n):
        self.stream(k)
        want(0 <= n <= 1000, -3)
        return [n] + [self.raw_number(k) for _ in range(n)]

    def call_3(self, k, n):
        stream = self.stream(k)
        want(0 <= n < STATES, -2)
        stream["state"] = jump(stream["state"], n)
        stream["count"] += n
        return []

    def call_4(self, k, n):
        stream = self.stream(k)
        want(0 <= n < STATES, -2)
        stream["state"] = jump(stream["state"], (STATES - n) % STATES)
        stream["count"] -= n
        return []

    def call_5(self, k, b):
        stream = self.stream(k)
        want(b in (0, 1), -4)
        stream["mirror"] = b
        return []

    def call_6(self, k):
        stream = self.stream(k)
        return [stream["state"], stream["seed"], stream["count"], stream["mirror"]]

    def far(self, x, y):
        """The one number of steps, a bit more of it right each time."""
        steps = 0
        for j in range(64):
            if (jump(x, steps) - y) % 2 ** (j + 1) != 0:
                steps += 2 ** j
        assert jump(x, steps) == y
        return steps

    def call_7(self, x, y):
        want(0 <= x < STATES and 0 <= y < STATES, -2)
        return [self.far(x, y)]

    def call_8(self, k, y):
        stream = self.stream(k)
        want(0 <= y < STATES, -2)
        n = self.far(stream["state"], y)
        stream["state"] = y
        stream["count"] += n
        return [n]

    def call_9(self, k, j):
        self.stream(k)
        self.streams[k] = dict(self.stream(j))
        return []

    def call_10(self, k, n, g):
        self.stream(k)
        want(1 <= n <= 64 and k + n <= 64, -3)
        want(0 <= g < STATES, -2)
        for i in range(1, n):
            state = jump(self.streams[k]["state"], i * g)
            self.streams[k + i] = {"state": state, "seed": state, "count": 0, "mirror": 0}
        return []

    def call_11(self, k, a, b):
        self.stream(k)
        want(-MOST <= a <= b <= MOST, -5)
        return [a + self.raw_number(k) * (b - a + 1) // RAW_NUMBERS]

    def chosen(self, k, weights):
        u = self.raw_number(k)
        return next(i for i in range(len(weights)) if u * sum(weights) < RAW_NUMBERS * sum(weights[:i + 1]))

    def call_12(self, k, weights):
        self.stream(k)
        want(right_weights(weights), -6)
        return [self.chosen(k, weights)]

    def exchanged(self, k, row, m):
        row = list(row)
        for i in range(m):
            j = i + self.raw_number(k) * (len(row) - i) // RAW_NUMBERS
            row[i], row[j] = row[j], row[i]
        return [m] + row[:m]

    def call_13(self, k, n):
        self.stream(k)
        want(0 <= n <= 1000, -3)
        return self.exchanged(k, range(n), n)

    def call_14(self, k, n, m):
        self.stream(k)
        want(0 <= n <= 1000, -3)
        want(0 <= m <= n, -7)
        return self.exchanged(k, range(n), m)

    def call_15(self, k, row):
        self.stream(k)
        want(len(row) <= 1000, -3)
        want(all(-MOST <= number <= MOST for number in row), -5)
        return self.exchanged(k, row, len(row))

    def call_16(self, k, m, weights):
        self.stream(k)
        want(right_weights(weights), -6)
        want(0 <= m <= sum(weight > 0 for weight in weights), -7)
        left = list(weights)
        places = []
        for _ in range(m):
            places.append(self.chosen(k, left))
            left[places[-1]] = 0
        return [m] + places

    def call_17(self, d, kind, a, b):
        want(0 <= d <= 63, -8)
        want(0 <= kind <= 9, -10)
        self.places[d] = right_classes(by_weights(kind, a, b) if 2 <= kind <= 5 else by_numbers(kind, a, b))
        return []

    def call_18(self, d):
        self.place(d)
        self.places[d] = None
        return []

    def call_19(self, d):
        return model.told(self.place(d))[1:]

    def call_20(self, d, u):
        classes = self.place(d)
        want(0 <= u < RAW_NUMBERS, -11)
        return model.pair(model.value(classes, u))

    def call_21(self, d, k):
        classes = self.place(d)
        self.stream(k)
        return model.pair(model.value(classes, self.raw_number(k)))

    def call_22(self, d, k, n):
        classes = self.place(d)
        self.stream(k)
        want(0 <= n <= 1000, -3)
        return [n] + [number for _ in range(n) for number in model.pair(model.value(classes, self.raw_number(k)))]

    def call_23(self, d):
        classes = self.place(d)
        return [len(classes)] + model.shares(classes)

    def call_24(self, d):
        return [number for moment in model.moments(self.place(d)) for number in model.pair(moment)]

    def compared(self, d, p, q, strict):
        classes = self.place(d)
        v = fraction(p, q)
        want(v is not None and strict in (0, 1), -5)
        return classes, v, strict

    def call_25(self, d, p, q, strict):
        return model.pair(model.below(*self.compared(d, p, q, strict)))

    def call_26(self, d, p, q, strict):
        return [model.hits(*self.compared(d, p, q, strict))]

    def call_27(self, d, e, f, v, w):
        want(all(0 <= place <= 63 for place in (d, e, f)), -8)
        one, other = self.place(e), self.place(f)
        want(0 <= v <= 10 ** 9 and 0 <= w <= 10 ** 9 and v + w > 0, -6)
        first = [(part[0] * v * model.total(other), *part[1:]) for part in one]
        second = [(part[0] * w * model.total(one), *part[1:]) for part in other]
        self.places[d] = right_classes(first + second)
        return []

    def call_28(self, d, e, p, q, r, s):
        want(0 <= d <= 63 and 0 <= e <= 63, -8)
        classes = self.place(e)
        factor, summand = fraction(p, q), fraction(r, s)
        want(factor is not None and summand is not None, -5)
        result = []
        for one in classes:
            if one[1] == "line":
                result.append(model.line(one[0], factor * one[2] + summand, factor * one[3] + summand))
            else:
                result.append(model.comb(one[0], factor * one[2] + summand, factor * one[3], one[4]))
        self.places[d] = right_classes(result)
        return []
