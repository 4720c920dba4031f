"""The calls below and hits."""

from fractions import Fraction

from tests import model
from tests.model import comb, line, pair, point
from tests.support import BELOW, DEFINE, HALF, HITS, HUGE, LAST, MOST, NOWHERE, RAW_NUMBERS, VALUE, CallTest, ask, defined

QUARTER = RAW_NUMBERS // 4
SMALL = Fraction(1, 10 ** 15)

RISING = [line(1, -1, 3)]
FALLING = [line(1, 3, -1)]
LEVEL = [line(1, Fraction(2, 3), Fraction(2, 3))]
TEETH = [comb(1, -1, Fraction(1, 2), 4)]
FALLING_TEETH = [comb(1, Fraction(1, 2), Fraction(-1, 2), 4)]
ONE_VALUE = [comb(1, 5, 0, 7)]
SEVERAL = [point(0, -50), line(3, 2, -4), comb(5, -6, Fraction(7, 3), 9), line(0, -90, 90), point(2, 1), line(4, 1, 1), comb(1, 8, -5, 4), line(2, -8, 20)]
LARGE = [line(10 ** 39, Fraction(MOST - 1, MOST), Fraction(-MOST, MOST - 3)), comb(7, Fraction(1, MOST), Fraction(MOST, MOST - 1), MOST),
         comb(8 * 10 ** 39 + 11, -MOST, Fraction(-1, MOST - 1), MOST - 7), line(123456789, MOST, Fraction(3, 7)),
         line(10 ** 39 - 10 ** 9, 5, Fraction(MOST - 1, 10 ** 9))]
DEFINITIONS = [RISING, FALLING, LEVEL, TEETH, FALLING_TEETH, ONE_VALUE, SEVERAL, LARGE]


def is_right(v):
    return abs(v.numerator) <= MOST and v.denominator <= MOST


def marks(classes):
    """Values at, a little below and a little above each end and some teeth, and values between."""
    found = {Fraction(0), Fraction(1, 3), Fraction(-MOST), Fraction(MOST)}
    for one in classes:
        if one[1] == "line":
            near = [one[2], one[3], (one[2] + one[3]) / 2, (2 * one[2] + one[3]) / 3]
        else:
            teeth = one[4]
            near = [one[2] + one[3] * i for i in (0, 1, teeth // 2, teeth - 2, teeth - 1, teeth)]
            near += [near[0] + one[3] / 2, near[0] - one[3] / 2]
        for x in near:
            found |= {x, x + SMALL, x - SMALL}
    return sorted(v for v in found if is_right(v))


class Below(CallTest):
    def chances(self, classes, *values):
        """What below answers of the values, not strict and strict."""
        calls = [(BELOW, 9, *pair(Fraction(v)), strict) for v in values for strict in (0, 1)]
        parts = ask(defined(9, classes), *calls)[1:]
        self.assertTrue(all(part[0] == 0 and len(part) == 3 for part in parts))
        return [(Fraction(*parts[i][1:]), Fraction(*parts[i + 1][1:])) for i in range(0, len(parts), 2)]

    def test_the_numbers_one_by_one(self):
        self.answered([0, 1, 2], (DEFINE, 9, 1, [1, 6], []), (BELOW, 9, 3, 1, 0))
        self.answered([0, 1, 3], (DEFINE, 9, 1, [1, 6], []), (BELOW, 9, 3, 1, 1))
        self.answered([0, 0, 1], (DEFINE, 9, 1, [1, 6], []), (BELOW, 9, 1, 2, 0))
        self.answered([0, 1, 1], (DEFINE, 9, 1, [1, 6], []), (BELOW, 9, 6, 1, 0))

    def test_a_line_whichever_way(self):
        quarter = Fraction(1, 4)
        for classes in (RISING, FALLING):
            self.assertEqual(
                self.chances(classes, -2, -1, 0, Fraction(1, 3), 1, 3, 4),
                [(0, 0), (0, 0), (quarter, quarter), (Fraction(1, 3), Fraction(1, 3)), (Fraction(1, 2), Fraction(1, 2)), (1, 1), (1, 1)],
            )

    def test_a_level_line(self):
        v = Fraction(2, 3)
        self.assertEqual(self.chances(LEVEL, v - SMALL, v, v + SMALL), [(0, 0), (1, 0), (1, 1)])

    def test_a_comb_whichever_way(self):
        # The teeth are -1, -1/2, 0, 1/2 both ways.
        quarter, half, most = Fraction(1, 4), Fraction(1, 2), Fraction(3, 4)
        for classes in (TEETH, FALLING_TEETH):
            self.assertEqual(
                self.chances(classes, -2, -1, Fraction(-3, 4), -half, Fraction(-1, 4), 0, quarter, half, 1),
                [(0, 0), (quarter, 0), (quarter, quarter), (half, quarter), (half, half), (most, half), (most, most), (1, most), (1, 1)],
            )

    def test_a_comb_without_step(self):
        self.assertEqual(self.chances(ONE_VALUE, 5 - SMALL, 5, 5 + SMALL), [(0, 0), (1, 0), (1, 1)])

    def test_one_tooth(self):
        for step in (-3, 0, 3):
            self.assertEqual(self.chances([comb(1, 5, step, 1)], 4, 5, 6), [(0, 0), (1, 0), (1, 1)])

    def test_several_classes(self):
        # A sixth of the weight lies on the line from 0 to 2, two sixths on 1 and three on the teeth 0 to 3.
        classes = [line(1, 0, 2), point(2, 1), comb(3, 0, 1, 4)]
        expected = [(Fraction(1, 2) + 2 + Fraction(3, 2)) / 6, (Fraction(1, 2) + Fraction(3, 4)) / 6]
        self.assertEqual(self.chances(classes, 1), [tuple(expected)])

    def test_classes_of_weight_0_give_nothing(self):
        self.assertEqual(self.chances([point(0, 0), line(1, 0, 1), line(0, -5, 5)], 0, Fraction(1, 2)), [(0, 0), (Fraction(1, 2), Fraction(1, 2))])

    def test_10_to_the_18_teeth(self):
        classes = [comb(1, 0, 1, MOST)]
        self.assertEqual(self.chances(classes, 0, 12345, MOST - 1), [
            (Fraction(1, MOST), 0), (Fraction(12346, MOST), Fraction(12345, MOST)), (1, Fraction(MOST - 1, MOST))])

    def test_by_the_words(self):
        for classes in DEFINITIONS:
            values = marks(classes)
            expected = [(model.below(classes, v, 0), model.below(classes, v, 1)) for v in values]
            self.assertEqual(self.chances(classes, *values), expected)

    def test_in_lowest_terms(self):
        for classes in DEFINITIONS:
            for v in marks(classes)[::3]:
                self.answered([0] + pair(model.below(classes, v, 0)), defined(9, classes), (BELOW, 9, *pair(v), 0))

    def test_64_classes_of_the_largest_numbers(self):
        classes = []
        for i in range(32):
            classes.append(line(10 ** 38 + i, Fraction(MOST - i, MOST - 1 - 2 * i), Fraction(i - MOST, MOST - 7 * i - 2)))
            classes.append(comb(10 ** 38 - 3 * i, Fraction(i + 1, MOST - 13 * i), Fraction(-MOST, MOST - 11 * i - 3), MOST - i))
        for v in (Fraction(1, 3), Fraction(MOST - 1, MOST), Fraction(-MOST, MOST - 1)):
            self.assertEqual(self.chances(classes, v), [(model.below(classes, v, 0), model.below(classes, v, 1))])


class Hits(CallTest):
    def hits(self, classes, *values):
        """What hits answers of the values, not strict and strict."""
        calls = [(HITS, 9, *pair(Fraction(v)), strict) for v in values for strict in (0, 1)]
        parts = ask(defined(9, classes), *calls)[1:]
        self.assertTrue(all(part[0] == 0 and len(part) == 2 for part in parts))
        return [(parts[i][1], parts[i + 1][1]) for i in range(0, len(parts), 2)]

    def test_a_rising_line(self):
        # The value is -1 + 4 u / 2^32: -1 is reached at u = 0, 3 nowhere.
        self.assertEqual(
            self.hits(RISING, -2, -1, -1 + Fraction(4, RAW_NUMBERS), 0, 3 - Fraction(4, RAW_NUMBERS), 3, 4),
            [(0, 0), (1, 0), (2, 1), (QUARTER + 1, QUARTER), (RAW_NUMBERS, LAST), (RAW_NUMBERS, RAW_NUMBERS), (RAW_NUMBERS, RAW_NUMBERS)],
        )

    def test_a_falling_line(self):
        # The value is 3 - 4 u / 2^32: 3 is reached at u = 0, -1 nowhere.
        self.assertEqual(
            self.hits(FALLING, -2, -1, -1 + Fraction(4, RAW_NUMBERS), 0, 3 - Fraction(4, RAW_NUMBERS), 3, 4),
            [(0, 0), (0, 0), (1, 0), (QUARTER, QUARTER - 1), (LAST, LAST - 1), (RAW_NUMBERS, LAST), (RAW_NUMBERS, RAW_NUMBERS)],
        )

    def test_between_two_raw_numbers(self):
        # A third of 2^32 lies between 1431655765 and 1431655766.
        self.assertEqual(self.hits([line(1, 0, 1)], Fraction(1, 3)), [(1431655766, 1431655766)])
        self.assertEqual(self.hits([line(1, 1, 0)], Fraction(1, 3)), [(1431655765, 1431655765)])

    def test_a_level_line(self):
        v = Fraction(2, 3)
        self.assertEqual(self.hits(LEVEL, v - SMALL, v, v + SMALL), [(0, 0), (RAW_NUMBERS, 0), (RAW_NUMBERS, RAW_NUMBERS)])

    def test_a_comb_whichever_way(self):
        # The teeth are -1, -1/2, 0, 1/2 both ways.
        half = Fraction(1, 2)
        for classes in (TEETH, FALLING_TEETH):
            self.assertEqual(
                self.hits(classes, -2, -1, Fraction(-3, 4), -half, 0, Fraction(1, 4), half, 1),
                [(0, 0), (QUARTER, 0), (QUARTER, QUARTER), (HALF, QUARTER), (3 * QUARTER, HALF), (3 * QUARTER, 3 * QUARTER),
                 (RAW_NUMBERS, 3 * QUARTER), (RAW_NUMBERS, RAW_NUMBERS)],
            )

    def test_three_teeth(self):
        # The second begins at 1431655766, the third at 2863311531.
        self.assertEqual(self.hits([comb(1, 0, 1, 3)], 0, 1, 2), [(1431655766, 0), (2863311531, 1431655766), (RAW_NUMBERS, 2863311531)])
        self.assertEqual(self.hits([comb(1, 2, -1, 3)], 0, 1, 2), [(1431655765, 0), (2863311530, 1431655765), (RAW_NUMBERS, 2863311530)])

    def test_a_comb_without_step(self):
        self.assertEqual(self.hits(ONE_VALUE, 5 - SMALL, 5, 5 + SMALL), [(0, 0), (RAW_NUMBERS, 0), (RAW_NUMBERS, RAW_NUMBERS)])

    def test_two_classes(self):
        # A third to the line, two thirds to the teeth 0, 1: the second begins at two thirds.
        classes = [line(1, 0, 2), comb(2, 0, 1, 2)]
        self.assertEqual(self.hits(classes, 0), [(1 + 1431655765, 0)])
        # 2 * 3 u / 2^32 is 1 at a sixth of 2^32, between 715827882 and 715827883.
        self.assertEqual(self.hits(classes, 1), [(715827883 + 2863311530, 715827883 + 1431655765)])

    def test_classes_at_no_or_few_raw_numbers(self):
        classes = [point(1, 7), point(10 ** 39, 2), point(1, 1), point(0, 0)]
        self.assertEqual(self.hits(classes, 0, 1, 2, 7), [(0, 0), (0, 0), (LAST, 0), (RAW_NUMBERS, LAST)])

    def test_three_raw_numbers_in_a_class(self):
        # The line is taken at 0 to 2, where it is 0, 1/3 and 2/3 of its way.
        classes = [line(3, 0, 3), point(RAW_NUMBERS - 3, 9)]
        self.assertEqual(self.hits(classes, 0, Fraction(1, 2), 1, 2, 3), [(1, 0), (1, 1), (2, 1), (3, 2), (3, 3)])
        classes = [line(3, 3, 0), point(RAW_NUMBERS - 3, 9)]
        self.assertEqual(self.hits(classes, 0, 1, Fraction(3, 2), 2, 3), [(0, 0), (1, 0), (1, 1), (2, 1), (3, 2)])

    def test_by_the_words(self):
        for classes in DEFINITIONS:
            values = marks(classes)
            expected = [(model.hits(classes, v, 0), model.hits(classes, v, 1)) for v in values]
            self.assertEqual(self.hits(classes, *values), expected)

    def test_against_value_on_both_sides(self):
        for classes in ([comb(1, Fraction(1, 7), Fraction(1, MOST), MOST)], [line(10 ** 40, Fraction(-1, MOST), Fraction(1, MOST - 1))],
                        [comb(5, 1, Fraction(-1, MOST), MOST)], [line(3, Fraction(MOST - 1, MOST), 0)], [comb(1, -4, 1, 10 ** 10 + 19)]):
            falls = model.value(classes, 0) > model.value(classes, LAST)
            least, greatest = model.value(classes, LAST * falls), model.value(classes, LAST * (1 - falls))
            inside = [v for v in (Fraction(0), Fraction(1, 3), Fraction(3, 4), Fraction(9 * 10 ** 9)) if least < v < greatest]
            self.assertTrue(inside)
            for v in inside:
                for strict, number in enumerate(self.hits(classes, v)[0]):
                    turn = RAW_NUMBERS - number if falls else number
                    before, behind = ask(defined(9, classes), (VALUE, 9, turn - 1), (VALUE, 9, turn))[1:]
                    inner, outer = (behind, before) if falls else (before, behind)
                    inner, outer = Fraction(*inner[1:]), Fraction(*outer[1:])
                    self.assertTrue(inner < v <= outer if strict else inner <= v < outer, (classes, v, strict))

    def test_64_classes_and_10_to_the_18_teeth(self):
        classes = [comb(10 ** 38 + i, Fraction(-i, 7), Fraction(i - 30, MOST), MOST) for i in range(64)]
        for v in (Fraction(0), Fraction(-30, 7), Fraction(-13, 3), Fraction(12345678901, 10 ** 10)):
            self.assertEqual(self.hits(classes, v), [(model.hits(classes, v, 0), model.hits(classes, v, 1))])

    def test_the_least_and_the_greatest_value_of_all(self):
        self.assertEqual(self.hits(SEVERAL, -MOST, MOST), [(0, 0), (RAW_NUMBERS, RAW_NUMBERS)])


class Refusals(CallTest):
    """Those of below and of hits are the same."""

    def test_not_in_lowest_terms(self):
        for call in (BELOW, HITS):
            for p, q in ((4, 2), (-6, 9), (0, HUGE), (HUGE // 100, HUGE // 50), (2 * MOST, 2), (2, 2 * MOST)):
                v = Fraction(p, q)
                for strict in (0, 1):
                    parts = ask(defined(9, SEVERAL), (call, 9, p, q, strict), (call, 9, v.numerator, v.denominator, strict))
                    self.assertEqual(parts[1][0], 0)
                    self.assertEqual(parts[1], parts[2])

    def test_the_largest_fractions(self):
        for call in (BELOW, HITS):
            for p, q in ((MOST, 1), (-MOST, 1), (1, MOST), (MOST, MOST - 1), (-MOST, MOST - 1)):
                self.done(call, 5, p, q, 0)
                self.done(call, 5, p, q, 1)

    def test_refusals(self):
        for call in (BELOW, HITS):
            for d in NOWHERE:
                self.refused(-8, call, d, 1, 2, 0)
            for d in (1, 62):
                self.refused(-12, call, d, 1, 2, 0)
            for p, q in ((1, 0), (0, 0), (1, -1), (0, -1), (MOST + 1, 1), (-MOST - 1, 1), (1, MOST + 1), (MOST + 1, MOST), (HUGE, 1), (1, HUGE),
                         (1, -HUGE), (-HUGE, HUGE - 1)):
                for strict in (0, 1):
                    self.refused(-5, call, 5, p, q, strict)
            for strict in (-1, 2, HUGE, -HUGE):
                self.refused(-5, call, 5, 1, 2, strict)

    def test_the_one_told_first(self):
        for call in (BELOW, HITS):
            self.refused(-8, call, 64, 1, 0, 2)
            self.refused(-8, call, -1, 1, 1, 2)
            self.refused(-12, call, 1, 1, 0, 0)
            self.refused(-12, call, 1, 1, 1, -1)
