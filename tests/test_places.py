"""The places of distributions: the calls forget, told, blend, bend."""

from fractions import Fraction

from tests.model import comb, line, point, told, total
from tests.support import BEND, BLEND, DEFINE, FORGET, HUGE, MOST, NOWHERE, TOLD, CallTest, ask, defined

MIXED = [line(4, Fraction(1, 2), -3), comb(0, Fraction(-7, 3), Fraction(-1, 5), 12), comb(9, 8, 0, 1), line(1, 5, 5)]
OTHER = [comb(2, 0, Fraction(3, 4), 7), line(5, -1, Fraction(1, 6))]
DEFINE_BOTH = [defined(1, MIXED), defined(2, OTHER)]


class Beginning(CallTest):
    def test_every_place_is_empty(self):
        self.assertEqual(ask(*[(TOLD, d) for d in range(64)]), [[-12]] * 64)


class Forget(CallTest):
    def test_the_place_is_empty_and_the_others_stay(self):
        parts = ask(*DEFINE_BOTH, (FORGET, 1), (TOLD, 1), (TOLD, 2), (FORGET, 1), (FORGET, 2), (TOLD, 2))
        self.assertEqual(parts[2:], [[0], [-12], told(OTHER), [-12], [0], [-12]])

    def test_define_again(self):
        parts = ask(*DEFINE_BOTH, (FORGET, 1), defined(1, OTHER), (TOLD, 1))
        self.assertEqual(parts[2:], [[0], [0], told(OTHER)])

    def test_places_at_both_ends(self):
        for d in (0, 63):
            self.assertEqual(ask(defined(d, MIXED), (FORGET, d), (TOLD, d)), [[0], [0], [-12]])

    def test_refusals(self):
        for d in NOWHERE:
            self.refused(-8, FORGET, d)
        for d in (1, 62):
            self.refused(-12, FORGET, d)

    def test_what_was_made_of_it_stays(self):
        parts = ask(*DEFINE_BOTH, (BEND, 3, 1, 1, 1, 0, 1), (BLEND, 4, 1, 1, 1, 0), (TOLD, 3), (TOLD, 4), (FORGET, 1), (TOLD, 3), (TOLD, 4),
                    (TOLD, 1))
        self.assertEqual(parts[4:6], parts[7:9])
        self.assertEqual(parts[7], told(MIXED))
        self.assertEqual(parts[9], [-12])

    def test_what_was_made_of_it_stays_when_it_is_defined_anew(self):
        parts = ask(*DEFINE_BOTH, (BEND, 3, 1, 1, 1, 0, 1), defined(1, OTHER), (TOLD, 3), (TOLD, 1), (BEND, 3, 3, 2, 1, 0, 1), (TOLD, 1))
        self.assertEqual(parts[4:6], [told(MIXED), told(OTHER)])
        self.assertEqual(parts[7], told(OTHER))


class Told(CallTest):
    def test_lines_and_combs(self):
        self.answered(
            [0, 4, 4, 0, 9, 1, 24, 0, 1, 2, -3, 1, 0, 1, -7, 3, -1, 5, 12, 1, 8, 1, 0, 1, 1, 0, 5, 1, 5, 1, 0],
            defined(1, MIXED), (TOLD, 1),
        )

    def test_in_lowest_terms(self):
        self.answered([0, 1, 6, 6, 0, -3, 2, 0, 1, 0], (DEFINE, 1, 5, [6], [0, -6, 4, 0, 9, 0]), (TOLD, 1))
        self.answered([0, 1, 6, 6, 1, -3, 2, 2, 3, 4], (DEFINE, 1, 5, [6], [1, -6, 4, 10, 15, 4]), (TOLD, 1))

    def test_telling_changes_nothing(self):
        self.assertEqual(ask(defined(1, MIXED), (TOLD, 1), (TOLD, 1))[1:], [told(MIXED)] * 2)

    def test_64_classes(self):
        classes = [line(10 ** 38 + i, i, Fraction(-MOST, i + 1)) for i in range(64)]
        self.answered(told(classes), defined(63, classes), (TOLD, 63))

    def test_refusals(self):
        for d in NOWHERE:
            self.refused(-8, TOLD, d)
        for d in (1, 62):
            self.refused(-12, TOLD, d)


def weighted(classes, factor):
    return [(one[0] * factor, *one[1:]) for one in classes]


def blended(e, f, v, w):
    return weighted(e, v * total(f)) + weighted(f, w * total(e))


class Blend(CallTest):
    def test_by_hand(self):
        parts = ask((DEFINE, 1, 0, [3, 1], []), (DEFINE, 2, 2, [1, 4], [0, 1, 1, 2]), (BLEND, 7, 1, 2, 2, 3), (TOLD, 7))
        # The sums are 1 and 5: weight 1 times 2 times 5, weights 1 and 4 times 3 times 1.
        self.assertEqual(parts[2:], [[0], told([point(10, 3), point(3, 0), point(12, Fraction(1, 2))])])

    def test_ordinary(self):
        for v, w in ((1, 1), (3, 5), (10 ** 9, 1), (1, 10 ** 9), (10 ** 9, 10 ** 9), (0, 1), (1, 0), (0, 10 ** 9), (10 ** 9, 0)):
            parts = ask(*DEFINE_BOTH, (BLEND, 0, 1, 2, v, w), (TOLD, 0), (TOLD, 1), (TOLD, 2))
            self.assertEqual(parts[2:], [[0], told(blended(MIXED, OTHER, v, w)), told(MIXED), told(OTHER)])

    def test_a_factor_of_0_leaves_the_classes_in_the_row(self):
        self.answered(told(weighted(MIXED, 0) + weighted(OTHER, 14)), *DEFINE_BOTH, (BLEND, 0, 1, 2, 0, 1), (TOLD, 0))
        self.answered(told(weighted(MIXED, 7) + weighted(OTHER, 0)), *DEFINE_BOTH, (BLEND, 0, 1, 2, 1, 0), (TOLD, 0))

    def test_one_place_more_than_once(self):
        parts = ask(*DEFINE_BOTH, (BLEND, 1, 1, 2, 3, 5), (TOLD, 1), (TOLD, 2))
        self.assertEqual(parts[2:], [[0], told(blended(MIXED, OTHER, 3, 5)), told(OTHER)])
        parts = ask(*DEFINE_BOTH, (BLEND, 2, 1, 2, 3, 5), (TOLD, 1), (TOLD, 2))
        self.assertEqual(parts[2:], [[0], told(MIXED), told(blended(MIXED, OTHER, 3, 5))])
        parts = ask(*DEFINE_BOTH, (BLEND, 9, 1, 1, 3, 5), (TOLD, 1), (TOLD, 9))
        self.assertEqual(parts[2:], [[0], told(MIXED), told(blended(MIXED, MIXED, 3, 5))])
        parts = ask(*DEFINE_BOTH, (BLEND, 1, 1, 1, 3, 5), (TOLD, 1), (TOLD, 2))
        self.assertEqual(parts[2:], [[0], told(blended(MIXED, MIXED, 3, 5)), told(OTHER)])

    def test_twice_over(self):
        first = blended(MIXED, OTHER, 1, 2)
        self.answered(told(blended(OTHER, first, 7, 0)), *DEFINE_BOTH, (BLEND, 1, 1, 2, 1, 2), (BLEND, 1, 2, 1, 7, 0), (TOLD, 1))

    def test_whatever_the_place_held(self):
        self.answered(told(blended(OTHER, OTHER, 1, 1)), *DEFINE_BOTH, defined(63, MIXED), (BLEND, 63, 2, 2, 1, 1), (TOLD, 63))

    def test_64_and_65_classes(self):
        half = [point(1, i) for i in range(32)]
        more = [point(1, i) for i in range(33)]
        given = [defined(1, half), defined(2, more)]
        self.answered(told(blended(half, half, 1, 1)), *given, (BLEND, 3, 1, 1, 1, 1), (TOLD, 3))
        self.refused(-10, BLEND, 3, 1, 2, 1, 1, given=given)
        self.refused(-10, BLEND, 1, 1, 2, 1, 0, given=given)
        self.refused(-10, BLEND, 2, 2, 2, 1, 1, given=given)

    def test_sums_at_and_above_the_greatest(self):
        big = [point(10 ** 20, 1)]
        given = [defined(1, big), defined(2, weighted(big, 10)), defined(3, [point(5 * 10 ** 19, 1)]), defined(4, [point(10 ** 20 - 1, 1), point(2, 5)])]
        # E F (v + w) is 10^40 where it is taken.
        self.answered(told(blended(big, big, 1, 0)), *given, (BLEND, 9, 1, 1, 1, 0), (TOLD, 9))
        self.answered(told(weighted(big, 0) + weighted(big, 10 ** 20)), *given, (BLEND, 9, 1, 1, 0, 1), (TOLD, 9))
        self.answered([0], *given, (BLEND, 9, 1, 3, 1, 1))
        self.answered([0], *given, (BLEND, 9, 3, 3, 2, 2))
        self.refused(-10, BLEND, 9, 1, 1, 1, 1, given=given)
        self.refused(-10, BLEND, 9, 1, 2, 1, 0, given=given)
        self.refused(-10, BLEND, 9, 1, 3, 1, 2, given=given)
        self.refused(-10, BLEND, 9, 1, 4, 1, 0, given=given)
        self.refused(-10, BLEND, 9, 4, 1, 0, 1, given=given)
        self.refused(-10, BLEND, 1, 1, 2, 10 ** 9, 10 ** 9, given=given)

    def test_no_place(self):
        for wrong in NOWHERE:
            self.refused(-8, BLEND, wrong, 0, 5, 1, 1)
            self.refused(-8, BLEND, 0, wrong, 5, 1, 1)
            self.refused(-8, BLEND, 0, 5, wrong, 1, 1)

    def test_an_empty_place(self):
        self.refused(-12, BLEND, 0, 1, 5, 1, 1)
        self.refused(-12, BLEND, 0, 5, 1, 1, 1)
        self.refused(-12, BLEND, 0, 1, 1, 1, 1)
        self.refused(-12, BLEND, 1, 1, 5, 1, 1)
        # An empty place may have a weight of 0 and is still asked for.
        self.refused(-12, BLEND, 0, 5, 1, 1, 0)
        self.refused(-12, BLEND, 0, 1, 5, 0, 1)

    def test_wrong_weights(self):
        for wrong in (-1, 10 ** 9 + 1, HUGE, -HUGE):
            self.refused(-6, BLEND, 0, 0, 5, wrong, 1)
            self.refused(-6, BLEND, 0, 0, 5, 1, wrong)
            self.refused(-6, BLEND, 0, 0, 5, wrong, 0)
            self.refused(-6, BLEND, 0, 0, 5, 0, wrong)
        self.refused(-6, BLEND, 0, 0, 5, 0, 0)
        self.refused(-6, BLEND, 0, 0, 5, -1, 1)
        self.refused(-6, BLEND, 0, 0, 5, 1, -1)

    def test_the_one_told_first(self):
        self.refused(-8, BLEND, 64, 1, 1, 0, 0)
        self.refused(-8, BLEND, 0, 1, 64, 1, 1)
        self.refused(-8, BLEND, 0, 64, 1, 1, 1)
        self.refused(-12, BLEND, 0, 1, 5, 0, 0)
        self.refused(-12, BLEND, 0, 5, 1, -1, 1)
        many = [defined(1, [point(10 ** 30, i) for i in range(64)])]
        self.refused(-6, BLEND, 0, 1, 1, 0, 0, given=many)
        self.refused(-6, BLEND, 0, 1, 1, 10 ** 9 + 1, 1, given=many)
        self.refused(-10, BLEND, 0, 1, 1, 10 ** 9, 1, given=many)


def bent(classes, factor, summand):
    result = []
    for one in classes:
        if one[1] == "line":
            result.append(line(one[0], factor * one[2] + summand, factor * one[3] + summand))
        else:
            result.append(comb(one[0], factor * one[2] + summand, factor * one[3], one[4]))
    return result


class Bend(CallTest):
    def test_by_hand(self):
        given = [(DEFINE, 1, 5, [3, 2], [0, 1, 2, 5, 3, 0, 1, -4, 1, 1, 6, 9])]
        # Times 3 / 2 and 1 / 4 more.
        self.answered([0, 2, 3, 2, 12, 0, 1, 1, 11, 4, 0, 1, -23, 4, 1, 4, 9], *given, (BEND, 7, 1, 3, 2, 1, 4), (TOLD, 7))

    def test_ordinary(self):
        for p, q, r, s in ((1, 1, 0, 1), (2, 1, 3, 1), (-1, 1, 0, 1), (-7, 3, 5, 11), (0, 1, 4, 9), (0, 5, 0, 7), (10, 4, -6, 8), (1, 10 ** 9, 1, 10 ** 8),
                           (7 * HUGE // 100, HUGE // 100, -HUGE // 100, 3 * HUGE // 100)):
            parts = ask(defined(1, MIXED), (BEND, 0, 1, p, q, r, s), (TOLD, 0), (TOLD, 1))
            self.assertEqual(parts[1:], [[0], told(bent(MIXED, Fraction(p, q), Fraction(r, s))), told(MIXED)])

    def test_by_0_all_values_are_the_summand(self):
        self.answered(
            told([line(4, Fraction(1, 3), Fraction(1, 3)), comb(0, Fraction(1, 3), 0, 12), comb(9, Fraction(1, 3), 0, 1), line(1, Fraction(1, 3), Fraction(1, 3))]),
            defined(1, MIXED), (BEND, 1, 1, 0, 1, 1, 3), (TOLD, 1),
        )

    def test_the_same_place(self):
        calls = [(BEND, 1, 1, -1, 2, 1, 3)] * 2
        expected = bent(bent(MIXED, Fraction(-1, 2), Fraction(1, 3)), Fraction(-1, 2), Fraction(1, 3))
        self.answered(told(expected), defined(1, MIXED), *calls, (TOLD, 1))

    def test_whatever_the_place_held(self):
        self.answered(told(bent(OTHER, 2, 0)), *DEFINE_BOTH, (BEND, 1, 2, 2, 1, 0, 1), (TOLD, 1))

    def test_what_comes_is_right_by_a_hair(self):
        for x, p, q, r, s in ((MOST - 1, 1, 1, 1, 1), (-MOST + 1, 1, 1, -1, 1), (MOST, 1, 1, 0, 1), (MOST // 2, 2, 1, 0, 1), (MOST, -1, 1, 0, 1),
                              (1, 1, MOST, 0, 1), (2, 1, MOST, 0, 1), (MOST, 2, 1, -MOST, 1)):
            for one in (line(1, x, 0), line(1, 0, x), comb(1, x, 0, 3)):
                self.answered(told(bent([one], Fraction(p, q), Fraction(r, s))), defined(1, [one]), (BEND, 2, 1, p, q, r, s), (TOLD, 2))
        for step in (MOST // 2, -MOST // 2):
            self.answered(told([comb(1, 0, 2 * step, MOST)]), defined(1, [comb(1, 0, step, MOST)]), (BEND, 2, 1, 2, 1, 0, 1), (TOLD, 2))

    def test_what_comes_is_not_right(self):
        for x, p, q, r, s in ((MOST, 1, 1, 1, 1), (-MOST, 1, 1, -1, 1), (MOST // 2, 2, 1, 1, 1), (MOST, 2, 1, 0, 1), (MOST, -1, 1, -1, 1),
                              (Fraction(1, 3), 1, MOST, 0, 1), (Fraction(1, MOST), 1, 2, 0, 1), (Fraction(1, MOST), 1, 1, 1, 3),
                              (Fraction(1, MOST - 1), 1, 1, 1, MOST)):
            for one in (line(1, x, 0), line(1, 0, x), comb(1, x, 0, 3)):
                for d in (1, 2, 5):
                    self.refused(-10, BEND, d, 1, p, q, r, s, given=[defined(1, [one])])
        for step in (MOST // 2 + 1, -MOST // 2 - 1, Fraction(1, 3)):
            factor = (2, 1) if abs(step) > 1 else (1, MOST)
            self.refused(-10, BEND, 2, 1, *factor, 0, 1, given=[defined(1, [comb(1, 0, step, 1)])])

    def test_the_last_tooth_need_not_be_right(self):
        self.answered(told([comb(1, MOST, MOST, MOST)]), defined(1, [comb(1, MOST - 1, MOST, MOST)]), (BEND, 2, 1, 1, 1, 1, 1), (TOLD, 2))

    def test_a_step_takes_no_summand(self):
        self.answered(told([comb(1, MOST, MOST, 2)]), defined(1, [comb(1, 0, MOST, 2)]), (BEND, 2, 1, 1, 1, MOST, 1), (TOLD, 2))

    def test_classes_of_weight_0_count_too(self):
        for one in (line(0, MOST, 0), line(0, 0, MOST), comb(0, MOST, 0, 3), comb(0, 0, MOST, 3)):
            for classes in ([one, point(1, 1)], [point(1, 1), one], [point(1, 1), one, point(1, 1)]):
                self.refused(-10, BEND, 2, 1, 2, 1, 0, 1, given=[defined(1, classes)])

    def test_64_classes(self):
        classes = [line(10 ** 38, i, -i) if i % 2 else comb(0, i, Fraction(1, i + 1), MOST) for i in range(64)]
        self.answered(told(bent(classes, Fraction(-3, 7), Fraction(1, 2))), defined(1, classes), (BEND, 2, 1, -3, 7, 1, 2), (TOLD, 2))

    def test_no_place(self):
        for wrong in NOWHERE:
            self.refused(-8, BEND, wrong, 5, 1, 1, 0, 1)
            self.refused(-8, BEND, 5, wrong, 1, 1, 0, 1)

    def test_an_empty_place(self):
        self.refused(-12, BEND, 5, 1, 1, 1, 0, 1)
        self.refused(-12, BEND, 1, 1, 1, 1, 0, 1)

    def test_no_right_fraction(self):
        for p, q in ((1, 0), (0, 0), (1, -1), (0, -1), (MOST + 1, 1), (-MOST - 1, 1), (1, MOST + 1), (MOST + 1, MOST), (HUGE, 1), (1, HUGE), (1, -HUGE)):
            self.refused(-5, BEND, 0, 5, p, q, 0, 1)
            self.refused(-5, BEND, 0, 5, 1, 1, p, q)

    def test_the_one_told_first(self):
        self.refused(-8, BEND, 64, 1, 1, 0, 0, 1)
        self.refused(-8, BEND, 0, 64, 1, 0, 0, 1)
        self.refused(-12, BEND, 0, 1, 1, 0, 0, 1)
        self.refused(-12, BEND, 0, 1, 1, 1, 1, 0)
        big = [defined(1, [point(1, MOST)])]
        self.refused(-5, BEND, 0, 1, 2, 1, 0, 0, given=big)
        self.refused(-5, BEND, 0, 1, MOST + 1, 1, 1, 1, given=big)
        self.refused(-10, BEND, 0, 1, MOST, 1, 1, 1, given=big)
