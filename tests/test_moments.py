"""The call moments: mean, variance, least, greatest."""

from fractions import Fraction

from tests import model
from tests.model import comb, line, pair, point
from tests.support import DEFINE, HUGE, MOMENTS, MOST, NOWHERE, CallTest, ask, defined


class Moments(CallTest):
    def are(self, expected, classes):
        """Mean, variance, least and greatest are as expected."""
        numbers = [number for fraction in expected for number in pair(Fraction(fraction))]
        self.assertEqual(ask(defined(9, classes), (MOMENTS, 9))[1], [0] + numbers)

    def by_words(self, classes):
        self.are(model.moments(classes), classes)

    def test_the_numbers_one_by_one(self):
        self.answered([0, 7, 2, 35, 12, 1, 1, 6, 1], (DEFINE, 9, 1, [1, 6], []), (MOMENTS, 9))
        self.answered([0, 0, 1, 0, 1, 0, 1, 0, 1], (DEFINE, 9, 0, [0, 5], []), (MOMENTS, 9))

    def test_lines(self):
        self.are([Fraction(1, 2), Fraction(1, 12), 0, 1], [line(1, 0, 1)])
        self.are([Fraction(1, 2), Fraction(1, 12), 0, 1], [line(7, 1, 0)])
        self.are([-2, Fraction(4, 3), -4, 0], [line(10 ** 40, -4, 0)])
        self.are([Fraction(-5, 12), Fraction(1, 432), Fraction(-1, 2), Fraction(-1, 3)], [line(1, Fraction(-1, 3), Fraction(-1, 2))])
        self.are([Fraction(7, 3), 0, Fraction(7, 3), Fraction(7, 3)], [line(2, Fraction(7, 3), Fraction(7, 3))])

    def test_points(self):
        self.are([Fraction(-5, 3), 0, Fraction(-5, 3), Fraction(-5, 3)], [point(1, Fraction(-5, 3))])
        self.are([Fraction(1, 2), Fraction(1, 4), 0, 1], [point(3, 0), point(3, 1)])
        # Three times 2 and once -2.
        self.are([1, 3, -2, 2], [point(3, 2), point(1, -2)])

    def test_combs(self):
        self.are([5, 0, 5, 5], [comb(1, 5, 3, 1)])
        self.are([5, 0, 5, 5], [comb(1, 5, 0, 9)])
        self.are([2, Fraction(8, 3), 0, 4], [comb(1, 0, 2, 3)])
        self.are([2, Fraction(8, 3), 0, 4], [comb(1, 4, -2, 3)])
        self.are([Fraction(-1, 4), Fraction(5, 16), -1, Fraction(1, 2)], [comb(6, Fraction(1, 2), Fraction(-1, 2), 4)])

    def test_10_to_the_18_teeth(self):
        self.are([Fraction(MOST - 1, 2), Fraction(MOST * MOST - 1, 12), 0, MOST - 1], [comb(1, 0, 1, MOST)])
        self.are([Fraction(1 - MOST, 2), Fraction(MOST * MOST - 1, 12), 1 - MOST, 0], [comb(1, 0, -1, MOST)])
        self.are([3, 0, 3, 3], [comb(1, 3, 0, MOST)])
        self.by_words([comb(1, Fraction(-MOST, MOST - 1), Fraction(MOST - 1, MOST), MOST)])
        self.by_words([comb(1, MOST, MOST, MOST), comb(1, -MOST, -MOST, MOST)])

    def test_several_classes(self):
        # The means are (-1/2 + 3 * 5) / 4 and (1/3 + 3 * 25) / 4.
        self.are([Fraction(29, 8), Fraction(113, 6) - Fraction(841, 64), -1, 5], [line(1, -1, 0), point(3, 5)])
        self.are([Fraction(7), Fraction(35, 6), 2, 12], [point(6 - abs(7 - i), i) for i in range(2, 13)])

    def test_a_mean_below_0(self):
        self.are([Fraction(-13, 2), Fraction(35, 12), -9, -4], [comb(1, -4, -1, 6)])

    def test_classes_of_weight_0_are_left_out(self):
        outside = [line(0, -1000, 2000), point(0, -5000), comb(0, 7, 1000, 12)]
        inside = [line(2, 0, 1), comb(1, 3, -1, 3)]
        expected = model.moments(inside)
        self.assertEqual(expected[2:], [0, 3])
        for one in outside:
            self.are(expected, [one] + inside)
            self.are(expected, inside + [one])
            self.are(expected, inside[:1] + [one] + inside[1:])
        self.are(expected, outside + inside + outside)

    def test_least_and_greatest_of_each_end(self):
        for classes in ([line(1, -7, 3), line(1, 0, 1)], [line(1, 0, 1), line(1, 3, -7)], [comb(1, -7, 5, 3), point(1, 0)],
                        [point(1, 0), comb(1, 3, -5, 3)], [comb(1, -7, 1, 2), comb(1, 2, 1, 2)], [line(1, 3, 2), line(1, -6, -7)]):
            self.assertEqual(model.moments(classes)[2:], [-7, 3])
            self.by_words(classes)

    def test_least_and_greatest_that_differ_little(self):
        near = [Fraction(1, 3), Fraction(333333333333333333, MOST), Fraction(333333333333333334, MOST), Fraction(1, 3) + Fraction(1, 10 ** 10)]
        self.by_words([point(1, x) for x in near])
        self.by_words([point(1, -x) for x in near])

    def test_ends_that_are_not_right_fractions(self):
        classes = [comb(1, Fraction(1, MOST), Fraction(1, MOST - 1), MOST - 5)]
        self.assertGreater(model.moments(classes)[3].denominator, MOST)
        self.by_words(classes)

    def test_weights_that_shorten(self):
        self.by_words([point(6, Fraction(1, 6)), point(12, Fraction(5, 6)), line(18, Fraction(1, 9), Fraction(4, 15))])
        self.by_words([point(10 ** 39, Fraction(1, 10 ** 17)), point(9 * 10 ** 39, Fraction(3, 10 ** 18))])

    def test_defined_by_kinds(self):
        for kind, a in ((6, [20, 37, 100]), (7, [20, 1, 100]), (8, [60, 31, 17]), (9, [6, 10]), (9, [0, 3])):
            answer = ask((DEFINE, 9, kind, a, []), (MOMENTS, 9))[1]
            if kind == 6:
                self.assertEqual(answer[1:5], pair(Fraction(20 * 37, 100)) + pair(Fraction(20 * 37 * 63, 10000)))
            if kind == 8:
                self.assertEqual(answer[1:3], pair(Fraction(17 * 31, 60)))
                self.assertEqual(answer[3:5], pair(Fraction(17 * 31 * 29 * 43, 60 * 60 * 59)))
            if kind == 9:
                n, s = a
                self.assertEqual(answer[1:], pair(Fraction(n * (s + 1), 2)) + pair(Fraction(n * (s * s - 1), 12)) + [n, 1, n * s, 1])

    def test_64_classes_of_the_largest_numbers(self):
        classes = []
        for i in range(32):
            classes.append(line(10 ** 38 + i, Fraction(MOST - i, MOST - 1 - 2 * i), Fraction(i - MOST, MOST - 7 * i - 2)))
            classes.append(comb(10 ** 38 - 3 * i, Fraction(i + 1, MOST - 13 * i), Fraction(-MOST, MOST - 11 * i - 3), MOST - i))
        self.by_words(classes)

    def test_nothing_is_changed(self):
        parts = ask(defined(9, [line(2, 0, 1), comb(1, 3, -1, 3)]), (MOMENTS, 9), (MOMENTS, 9))
        self.assertEqual(parts[1], parts[2])

    def test_refusals(self):
        for d in NOWHERE:
            self.refused(-8, MOMENTS, d)
        for d in (1, 62):
            self.refused(-12, MOMENTS, d)
        self.refused(-8, MOMENTS, HUGE - 1)
