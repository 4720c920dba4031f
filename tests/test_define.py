"""The call define: what comes of each kind, shown by told, and where no distribution comes of it."""

from fractions import Fraction
from itertools import product
from math import comb as ways

from tests.model import comb, line, pair, point, told
from tests.support import DEFINE, HUGE, MOST, NOWHERE, TOLD, CallTest, ask

# A prime that is no factor of 10^18, to write a fraction not in lowest terms.
BIG = 10 ** 20 + 39


class DefineTest(CallTest):
    def comes(self, classes, kind, a, b=()):
        """Of the rows come the classes."""
        self.assertEqual(ask((DEFINE, 9, kind, list(a), list(b)), (TOLD, 9)), [[0], told(classes)])

    def none(self, kind, a, b=()):
        """Of the rows comes nothing, and the place keeps what it held, or stays empty."""
        self.refused(-10, DEFINE, 5, kind, list(a), list(b))
        self.assertEqual(ask((DEFINE, 9, kind, list(a), list(b)), (TOLD, 9)), [[-10], [-12]])


class AnyKind(DefineTest):
    def test_the_place(self):
        for d in (0, 1, 62, 63):
            parts = ask((DEFINE, d, 0, [d, 2], []), *[(TOLD, place) for place in range(64)])
            for place in range(64):
                self.assertEqual(parts[1 + place], told([point(1, Fraction(d, 2))]) if place == d else [-12])

    def test_whatever_the_place_held(self):
        parts = ask((DEFINE, 3, 0, [1, 1], []), (DEFINE, 3, 1, [2, 5], []), (TOLD, 3), (DEFINE, 3, 0, [1, 1], []), (TOLD, 3))
        self.assertEqual(parts, [[0], [0], told([comb(1, 2, 1, 4)]), [0], told([point(1, 1)])])

    def test_no_place(self):
        for d in NOWHERE:
            self.refused(-8, DEFINE, d, 0, [1, 1], [])

    def test_the_place_is_refused_before_the_rows(self):
        for kind in (-1, 0, 5, 10):
            self.refused(-8, DEFINE, 64, kind, [], [])
            self.refused(-8, DEFINE, -1, kind, [1, 0], [2])

    def test_no_kind(self):
        for kind in (-1, 10, 11, HUGE, -HUGE):
            for a, b in (([1, 1], []), ([1], [1, 1]), ([], []), ([3, 1, 2], [])):
                self.none(kind, a, b)

    def test_empty_rows(self):
        for kind in range(10):
            self.none(kind, [], [])
            self.none(kind, [], [1, 1])

    def test_the_longest_rows(self):
        for kind in range(10):
            self.none(kind, [1] * 2000, [1] * 2000)


class Points(DefineTest):
    def test_ordinary(self):
        self.assertEqual(ask((DEFINE, 9, 0, [3, 4], []), (TOLD, 9))[1], [0, 1, 1, 6, 1, 3, 4, 0, 1, 1])
        for p, q in ((0, 1), (5, 1), (-5, 3), (MOST, MOST - 1), (-MOST, 1), (1, MOST), (-MOST, MOST - 1)):
            self.comes([point(1, Fraction(p, q))], 0, [p, q])

    def test_not_in_lowest_terms(self):
        for p, q in ((2, 4), (-6, 3), (0, 7), (0, HUGE), (HUGE, HUGE), (-HUGE, HUGE), (BIG, 3 * BIG), (-7 * BIG, 2 * BIG),
                     (MOST * BIG, BIG), (-MOST * BIG, BIG), (BIG, MOST * BIG), (2 * MOST, 2), (2, 2 * MOST)):
            self.comes([point(1, Fraction(p, q))], 0, [p, q])

    def test_no_right_fraction(self):
        for p, q in ((1, 0), (0, 0), (1, -1), (-1, -1), (0, -5), (HUGE, 0), (MOST + 1, 1), (-MOST - 1, 1), (1, MOST + 1), (-1, MOST + 1),
                     (MOST + 1, MOST), (2 * MOST + 2, 2), (1, HUGE), (HUGE, 1), (-HUGE, 1), (1, -HUGE), (BIG * (MOST + 1), BIG),
                     (BIG, BIG * (MOST + 1))):
            self.none(0, [p, q])

    def test_too_few_and_too_many(self):
        for a in ([], [1], [1, 1, 1], [1, 1, 1, 1]):
            self.none(0, a)
        self.none(0, [1, 1], [1])
        self.none(0, [1, 1], [0])
        self.none(0, [1, 1], [1, 1])

    def test_points_with_weights(self):
        self.assertEqual(
            ask((DEFINE, 9, 2, [5, 0, 2], [1, 2, -6, 4, 7, 1]), (TOLD, 9))[1],
            [0, 3, 5, 0, 2, 18, 1, 1, 2, 0, 1, 1, 1, -3, 2, 0, 1, 1, 1, 7, 1, 0, 1, 1],
        )
        self.comes([point(1, MOST)], 2, [1], [MOST, 1])
        self.comes([point(i, Fraction(1, 1 + i)) for i in range(64)], 2, range(64), [n for i in range(64) for n in (1, 1 + i)])

    def test_points_with_weights_refused(self):
        for b in ([], [1], [1, 1], [1, 1, 1], [1, 1, 1, 1, 1], [1, 1] * 3):
            self.none(2, [1, 2], b)
        for place in range(3):
            for wrong in ((1, 0), (1, -1), (MOST + 1, 1), (1, MOST + 1)):
                b = [1, 1] * 3
                b[2 * place:2 * place + 2] = wrong
                self.none(2, [1, 0, 1], b)


class Weights(DefineTest):
    """The weights of the kinds 2 to 5: -10 where they are not right, never -6."""

    def rows_for(self, kind, many):
        return {2: [1, 2] * many, 3: [1, 2] * (many + 1), 4: [3, 7] * many, 5: [1, 1, 2, 3, 4, 5] * many}[kind]

    def classes_for(self, kind, weights):
        one = {
            2: lambda weight: point(weight, Fraction(1, 2)),
            3: lambda weight: line(weight, Fraction(1, 2), Fraction(1, 2)),
            4: lambda weight: comb(weight, 3, 1, 5),
            5: lambda weight: comb(weight, Fraction(1, 2), Fraction(3, 4), 5),
        }[kind]
        return [one(weight) for weight in weights]

    def test_right_weights(self):
        for kind in (2, 3, 4, 5):
            for weights in ([1], [0, 1], [1, 0, 0], [10 ** 40], [10 ** 40 - 1, 1, 0], [1] * 64, [0] * 63 + [1]):
                self.comes(self.classes_for(kind, weights), kind, weights, self.rows_for(kind, len(weights)))

    def test_weights_that_are_not_right(self):
        for kind in (2, 3, 4, 5):
            for weights in ([], [0], [0, 0], [1] * 65, [0] * 64 + [1], [-1], [2, -1], [-1, 2], [10 ** 40 + 1], [10 ** 40, 1], [0] * 64,
                            [HUGE, -HUGE, 1], [10 ** 40 + 1, -1]):
                self.none(kind, weights, self.rows_for(kind, len(weights)))

    def test_too_few_and_too_many(self):
        for kind in (2, 3, 4, 5):
            for many in (1, 2, 3, 64):
                b = self.rows_for(kind, many)
                for wrong in (b[:-1], b[1:], b + [1], b[:-2], b + b[:2], b[:-6], b + self.rows_for(5, 1), []):
                    if len(wrong) != len(b):
                        self.none(kind, [1] * many, wrong)


class WholeCombs(DefineTest):
    bounds = [(0, 0), (5, 5), (-3, 8), (1, 6), (-MOST, -MOST), (MOST, MOST), (1, MOST), (-MOST, -1), (0, MOST - 1), (-MOST + 1, 0),
              (-MOST // 2, MOST // 2 - 1)]
    wrong_bounds = [(1, 0), (5, -5), (MOST, -MOST), (-MOST, MOST), (0, MOST), (-MOST, 0), (-1, MOST - 1), (-MOST // 2, MOST // 2),
                    (MOST + 1, MOST + 1), (-MOST - 1, -MOST - 1), (-MOST - 1, -MOST), (MOST, MOST + 1), (-HUGE, HUGE), (HUGE, HUGE),
                    (-HUGE, -HUGE), (HUGE, 0), (0, -HUGE)]

    def test_one(self):
        self.assertEqual(ask((DEFINE, 9, 1, [1, 6], []), (TOLD, 9))[1], [0, 1, 1, 6, 1, 1, 1, 1, 1, 6])
        for a, b in self.bounds:
            self.comes([comb(1, a, 1, b - a + 1)], 1, [a, b])

    def test_one_refused(self):
        for bounds in self.wrong_bounds:
            self.none(1, bounds)
        for a in ([], [1], [1, 2, 3], [1, 2, 3, 4]):
            self.none(1, a)
        self.none(1, [1, 6], [0])
        self.none(1, [1, 6], [1, 6])

    def test_with_weights(self):
        self.assertEqual(
            ask((DEFINE, 9, 4, [5, 2], [1, 6, -4, -4]), (TOLD, 9))[1],
            [0, 2, 5, 2, 12, 1, 1, 1, 1, 1, 6, 1, -4, 1, 1, 1, 1],
        )
        flat = [number for bounds in self.bounds for number in bounds]
        self.comes([comb(i, a, 1, b - a + 1) for i, (a, b) in enumerate(self.bounds)], 4, range(len(self.bounds)), flat)

    def test_with_weights_refused(self):
        for a, b in self.wrong_bounds:
            self.none(4, [1, 0, 1], [1, 6, a, b, 2, 3])
            self.none(4, [1], [a, b])


class Lines(DefineTest):
    def test_joined(self):
        self.assertEqual(
            ask((DEFINE, 9, 3, [5, 2], [0, 1, 2, 4, -7, 1]), (TOLD, 9))[1],
            [0, 2, 5, 2, 12, 0, 0, 1, 1, 2, 0, 0, 1, 2, -7, 1, 0],
        )
        ends = [Fraction(i * i - 30 * i, i + 1) for i in range(65)]
        classes = [line(i, ends[i], ends[i + 1]) for i in range(64)]
        self.comes(classes, 3, range(64), [number for end in ends for number in pair(end)])

    def test_rising_falling_and_level(self):
        self.comes([line(1, -1, 1), line(1, 1, 1), line(1, 1, -1)], 3, [1, 1, 1], [-1, 1, 1, 1, 3, 3, -2, 2])

    def test_refused(self):
        for place in range(4):
            for wrong in ((1, 0), (1, -1), (MOST + 1, 1), (-MOST - 1, 1), (1, MOST + 1)):
                b = [1, 1] * 4
                b[2 * place:2 * place + 2] = wrong
                self.none(3, [1, 0, 1], b)


class AsTold(DefineTest):
    def test_ordinary(self):
        classes = [line(4, Fraction(1, 2), -3), comb(0, Fraction(-7, 3), Fraction(-1, 5), 12), line(1, 0, 0), comb(9, 8, 0, 1)]
        self.comes(classes, 5, [4, 0, 1, 9], [0, 1, 2, -3, 1, 0, 1, -7, 3, -1, 5, 12, 0, 0, 1, 0, 1, 0, 1, 8, 1, 0, 1, 1])

    def test_what_told_answers_is_taken(self):
        answer = ask((DEFINE, 1, 5, [3, 4], [0, -6, 4, 10, 5, 0, 1, 9, 3, -8, 6, MOST]), (TOLD, 1))[1]
        self.assertEqual(answer, [0, 2, 3, 4, 12, 0, -3, 2, 2, 1, 0, 1, 3, 1, -4, 3, MOST])
        again = ask((DEFINE, 2, 5, answer[2:4], answer[5:]), (TOLD, 2))
        self.assertEqual(again, [[0], answer])

    def test_64_classes(self):
        classes = [line(i, i, -i) if i % 2 else comb(i, i, -i, i + 1) for i in range(64)]
        weights = list(range(64))
        numbers = told(classes)[2 + 64 + 1:]
        self.comes(classes, 5, weights, numbers)
        self.none(5, weights + [1], numbers + [0, 1, 1, 1, 1, 0])

    def test_the_first_number(self):
        for first in (-1, 2, HUGE, -HUGE):
            for last in (0, 1, 5):
                self.none(5, [1], [first, 1, 1, 1, 1, last])
                self.none(5, [1, 1], [0, 1, 1, 1, 1, 0, first, 1, 1, 1, 1, last])

    def test_a_lines_last_number(self):
        for last in (1, -1, 5, HUGE, -HUGE):
            self.none(5, [1], [0, 1, 1, 1, 1, last])

    def test_teeth(self):
        for teeth in (1, 2, MOST - 1, MOST):
            self.comes([comb(1, 3, Fraction(1, 2), teeth)], 5, [1], [1, 3, 1, 1, 2, teeth])
        for teeth in (0, -1, MOST + 1, HUGE, -HUGE):
            self.none(5, [1], [1, 3, 1, 1, 2, teeth])

    def test_steps(self):
        for step in (0, Fraction(-1, 7), MOST, -MOST, Fraction(1, MOST)):
            for teeth in (1, 5, MOST):
                self.comes([comb(1, 3, step, teeth)], 5, [1], [1, 3, 1] + pair(Fraction(step)) + [teeth])

    def test_fractions_of_both(self):
        right = [(2 * MOST, 2), (-BIG * 3, BIG * 4), (MOST, MOST - 1), (1, MOST), (0, HUGE)]
        for x, y in product(right, right):
            self.comes([line(1, Fraction(*x), Fraction(*y))], 5, [1], [0, *x, *y, 0])
            self.comes([comb(1, Fraction(*x), Fraction(*y), 7)], 5, [1], [1, *x, *y, 7])
        for wrong in ((1, 0), (0, 0), (1, -1), (MOST + 1, 1), (-MOST - 1, 1), (1, MOST + 1), (HUGE, 1), (1, HUGE)):
            for first, last in ((0, 0), (1, 1)):
                self.none(5, [1], [first, *wrong, 1, 1, last])
                self.none(5, [1], [first, 1, 1, *wrong, last])
                self.none(5, [1, 0], [0, 1, 1, 1, 1, 0, first, 1, 1, *wrong, last])


class Tries(DefineTest):
    """The kinds 6 and 7."""

    settings = [(0, 0, 1), (0, 1, 1), (0, 3, 7), (1, 0, 1), (1, 1, 1), (1, 1, 2), (2, 1, 2), (3, 1, 3), (5, 0, 9), (5, 9, 9), (20, 0, 100),
                (20, 100, 100), (20, 1, 100), (20, 99, 100), (20, 37, 100), (19, 1, 1), (20, 0, 1), (7, 2, 6)]
    wrong = [(-1, 1, 2), (21, 1, 2), (HUGE, 1, 2), (-HUGE, 1, 2), (3, -1, 2), (3, 3, 2), (3, HUGE, 2), (3, -HUGE, 2), (3, 0, 0), (3, 1, 0), (3, 0, -1),
             (3, -1, -1), (3, -2, -1), (3, 1, 101), (3, 0, 101), (3, 101, 101), (3, 1, HUGE), (3, 1, -HUGE), (0, 0, 0), (0, 1, 101), (0, 2, 1)]

    def test_successes_by_hand(self):
        self.comes([point(8, 0), point(12, 1), point(6, 2), point(1, 3)], 6, [3, 1, 3])
        self.comes([point(1, 0), point(2, 1), point(1, 2)], 6, [2, 1, 2])
        self.comes([point(1, 0)], 6, [0, 1, 2])
        # With p = 0 or p = q a single class has a weight, as 0^0 is 1.
        self.comes([point(9, 0), point(0, 1), point(0, 2)], 6, [2, 0, 3])
        self.comes([point(0, 0), point(0, 1), point(9, 2)], 6, [2, 3, 3])
        # p / q is not brought to lowest terms.
        self.comes([point(4, 0), point(8, 1), point(4, 2)], 6, [2, 2, 4])

    def test_successes(self):
        for n, p, q in self.settings:
            weights = [ways(n, i) * p ** i * (q - p) ** (n - i) for i in range(n + 1)]
            self.assertEqual(sum(weights), q ** n)
            self.comes([point(weight, i) for i, weight in enumerate(weights)], 6, [n, p, q])

    def test_failures_by_hand(self):
        self.comes([point(9, 0), point(6, 1), point(4, 2), point(8, 3)], 7, [3, 1, 3])
        self.comes([point(1, 0)], 7, [0, 1, 2])
        self.comes([point(1, 0), point(1, 1)], 7, [1, 1, 2])
        self.comes([point(0, 0), point(0, 1), point(9, 2)], 7, [2, 0, 3])
        self.comes([point(9, 0), point(0, 1), point(0, 2)], 7, [2, 3, 3])
        self.comes([point(1, 0)], 7, [0, 1, 1])

    def test_failures(self):
        for m, p, q in self.settings:
            weights = [p * (q - p) ** i * q ** (m - 1 - i) for i in range(m)] + [(q - p) ** m]
            self.assertEqual(sum(weights), q ** m)
            self.comes([point(weight, i) for i, weight in enumerate(weights)], 7, [m, p, q])

    def test_refused(self):
        for kind in (6, 7):
            for a in self.wrong:
                self.none(kind, a)
            for a in ([], [3], [3, 1], [3, 1, 2, 1], [3, 1, 2, 3, 1, 2]):
                self.none(kind, a)
            self.none(kind, [3, 1, 2], [0])
            self.none(kind, [3, 1, 2], [1, 1])


class Things(DefineTest):
    """The kind 8."""

    def test_by_hand(self):
        # Of 5 things 2 are marked, 3 are taken.
        self.comes([point(1, 0), point(6, 1), point(3, 2), point(0, 3)], 8, [5, 2, 3])
        self.comes([point(1, 0)], 8, [0, 0, 0])
        self.comes([point(1, 0)], 8, [60, 30, 0])
        self.comes([point(0, 0), point(1, 1)], 8, [1, 1, 1])
        self.comes([point(1, 0), point(0, 1)], 8, [1, 0, 1])
        # All but one are marked, so at least two of the three are.
        self.comes([point(0, 0), point(0, 1), point(6, 2), point(4, 3)], 8, [5, 4, 3])

    def test_ordinary(self):
        for a, b, n in ((60, 60, 60), (60, 0, 60), (60, 30, 60), (60, 30, 30), (60, 1, 59), (60, 59, 1), (59, 7, 20), (10, 5, 5), (60, 0, 0)):
            weights = [ways(b, i) * ways(a - b, n - i) for i in range(n + 1)]
            self.assertEqual(sum(weights), ways(a, n))
            self.comes([point(weight, i) for i, weight in enumerate(weights)], 8, [a, b, n])

    def test_refused(self):
        for a in ((-1, 0, 0), (61, 0, 0), (61, 30, 30), (HUGE, 0, 0), (-HUGE, 0, 0), (5, -1, 2), (5, 6, 2), (5, HUGE, 2), (5, -HUGE, 2), (5, 2, -1),
                  (5, 2, 6), (5, 2, HUGE), (5, 2, -HUGE), (0, 1, 0), (0, 0, 1), (60, 61, 60), (60, 60, 61)):
            self.none(8, a)
        for a in ([], [5], [5, 2], [5, 2, 3, 0]):
            self.none(8, a)
        self.none(8, [5, 2, 3], [0])
        self.none(8, [5, 2, 3], [1, 1])


class Dice(DefineTest):
    """The kind 9."""

    def test_by_hand(self):
        self.comes([point(1, 0)], 9, [0, 6])
        self.comes([point(1, 0)], 9, [0, 1])
        self.comes([point(1, 6)], 9, [6, 1])
        self.comes([point(1, i) for i in range(1, 7)], 9, [1, 6])
        self.comes([point(6 - abs(7 - i), i) for i in range(2, 13)], 9, [2, 6])
        self.comes([point(weight, 3 + i) for i, weight in enumerate((1, 3, 3, 1))], 9, [3, 2])

    def test_every_way_counted(self):
        for n, s in ((1, 1), (1, 10), (2, 10), (3, 6), (4, 3), (5, 4), (6, 3), (3, 10)):
            counts = {}
            for sides in product(range(1, s + 1), repeat=n):
                counts[sum(sides)] = counts.get(sum(sides), 0) + 1
            self.comes([point(counts[i], i) for i in range(n, n * s + 1)], 9, [n, s])

    def test_the_most(self):
        answer = ask((DEFINE, 9, 9, [6, 10], []), (TOLD, 9))[1]
        weights = answer[2:57]
        self.assertEqual(answer[1], 55)
        self.assertEqual(sum(weights), 10 ** 6)
        self.assertEqual(weights, weights[::-1])
        self.assertEqual(weights[:4], [1, 6, 21, 56])
        self.assertEqual(answer[58:64], [1, 6, 1, 0, 1, 1])
        self.assertEqual(answer[-6:], [1, 60, 1, 0, 1, 1])

    def test_refused(self):
        for a in ((-1, 6), (7, 6), (HUGE, 6), (-HUGE, 6), (2, 0), (2, -1), (2, 11), (2, HUGE), (2, -HUGE), (0, 0), (0, 11), (-1, 0), (7, 11)):
            self.none(9, a)
        for a in ([], [2], [2, 6, 1]):
            self.none(9, a)
        self.none(9, [2, 6], [0])
        self.none(9, [2, 6], [1, 1])
