"""The calls value, draw, draws, shares."""

from fractions import Fraction

from tests import model
from tests.model import bounds, comb, line, pair, point
from tests.support import (
    COPY, DEFINE, DRAW, DRAWS, HALF, HUGE, LAST, MIRROR, MOST, NOWHERE, RAW, RAW_NUMBERS, RAWS, SEED, SHARES, VALUE, WHERE,
    CallTest, ask, defined, follow, raw_numbers, state_for,
)

QUARTER = RAW_NUMBERS // 4

# Classes of weight 0 before, between and behind others.
GAPS = [point(0, 100), point(0, 101), line(1, 0, 8), line(0, 200, 300), comb(0, 102, 1, 5), comb(2, -9, -2, 3), point(0, 103)]
MANY = [line(3 * i % 7, Fraction(i, 3), Fraction(-i, 7)) if i % 3 else comb(i % 5, i, Fraction(-1, i + 1), i + 1) for i in range(64)]
LARGE = [line(10 ** 39, Fraction(MOST - 1, MOST), Fraction(-MOST, MOST - 3)), comb(7, Fraction(1, MOST), Fraction(MOST, MOST - 1), MOST),
         comb(8 * 10 ** 39 + 11, -MOST, Fraction(-1, MOST - 1), MOST - 7), line(123456789, MOST, Fraction(3, 7)),
         line(10 ** 39 - 10 ** 9, 5, Fraction(MOST - 1, 10 ** 9))]
DEFINITIONS = [GAPS, MANY, LARGE, [point(1, 5)], [line(10 ** 40, 0, 1)], [comb(1, 0, 1, MOST)], [comb(3, 7, 0, MOST)], [line(2, 4, 4)]]


def edges(classes):
    """Raw numbers at the ends, at both sides of each bound between classes, and some between."""
    found = {0, 1, HALF - 1, HALF, LAST - 1, LAST, 1234567890, 3000000000, 4000000000}
    for bound in bounds(classes):
        found |= {bound - 1, bound}
    return sorted(u for u in found if 0 <= u <= LAST)


class Value(CallTest):
    def at(self, classes, *raws):
        return [part[1:] for part in ask(defined(9, classes), *[(VALUE, 9, u) for u in raws])[1:]]

    def test_a_rising_line(self):
        self.assertEqual(
            self.at([line(1, 0, 1)], 0, 1, QUARTER, HALF, LAST),
            [[0, 1], [1, RAW_NUMBERS], [1, 4], [1, 2], [LAST, RAW_NUMBERS]],
        )
        self.assertEqual(self.at([line(7, Fraction(-1, 2), Fraction(3, 2))], 0, QUARTER, HALF), [[-1, 2], [0, 1], [1, 2]])

    def test_a_falling_line(self):
        self.assertEqual(
            self.at([line(1, 1, 0)], 0, 1, QUARTER, HALF, LAST),
            [[1, 1], [LAST, RAW_NUMBERS], [3, 4], [1, 2], [1, RAW_NUMBERS]],
        )

    def test_a_level_line(self):
        self.assertEqual(self.at([line(3, Fraction(-2, 3), Fraction(-2, 3))], 0, 1, HALF, LAST), [[-2, 3]] * 4)

    def test_a_rising_comb(self):
        self.assertEqual(
            self.at([comb(1, Fraction(1, 2), Fraction(1, 3), 4)], 0, QUARTER - 1, QUARTER, HALF - 1, HALF, 3 * QUARTER - 1, 3 * QUARTER, LAST),
            [[1, 2], [1, 2], [5, 6], [5, 6], [7, 6], [7, 6], [3, 2], [3, 2]],
        )

    def test_a_falling_comb(self):
        self.assertEqual(
            self.at([comb(1, 10, -3, 3)], 0, 1431655765, 1431655766, 2863311530, 2863311531, LAST),
            [[10, 1], [10, 1], [7, 1], [7, 1], [4, 1], [4, 1]],
        )

    def test_a_comb_without_step(self):
        self.assertEqual(self.at([comb(5, Fraction(7, 2), 0, MOST)], 0, HALF, LAST), [[7, 2]] * 3)

    def test_more_teeth_than_raw_numbers(self):
        # The raw number u leads to the tooth u 10^18 / 2^32, rounded down.
        self.assertEqual(self.at([comb(1, 0, 1, MOST)], 0, 1, 2, LAST), [[0, 1], [232830643, 1], [465661287, 1], [999999999767169356, 1]])

    def test_the_bound_between_two_classes(self):
        # A third of 2^32 lies between 1431655765 and 1431655766.
        parts = self.at([line(1, 0, 3), line(2, 0, 8)], 1431655765, 1431655766)
        # On the first, 3 times 3 u / 2^32; on the second 8 (3 u - 2^32) / 2^33.
        self.assertEqual(parts, [pair(Fraction(9 * 1431655765, RAW_NUMBERS)), pair(Fraction(16, 2 * RAW_NUMBERS))])

    def test_classes_of_weight_0_are_never_taken(self):
        raws = edges(GAPS)
        found = [Fraction(*part) for part in self.at(GAPS, *raws)]
        self.assertEqual(found[:2], [0, Fraction(24, RAW_NUMBERS)])
        self.assertTrue(all(number < 10 for number in found))
        self.assertEqual({number for number in found if number < 0}, {-9, -11, -13})
        self.assertEqual(self.at([point(0, 9), point(1, 4), point(0, 8)], 0, HALF, LAST), [[4, 1]] * 3)
        self.assertEqual(self.at([point(1, 4), point(0, 9), point(1, 5)], HALF - 1, HALF), [[4, 1], [5, 1]])

    def test_by_the_words(self):
        for classes in DEFINITIONS:
            raws = edges(classes)
            self.assertEqual(self.at(classes, *raws), [pair(model.value(classes, u)) for u in raws])

    def test_a_class_too_light_to_be_taken_at_any_raw_number(self):
        classes = [point(10 ** 20, 1), point(1, 2), point(10 ** 20, 3)]
        raws = edges(classes)
        self.assertEqual(self.at(classes, *raws), [pair(model.value(classes, u)) for u in raws])

    def test_nothing_is_taken_from_a_stream(self):
        self.answered([0, 5, 5, 0, 0], defined(5, GAPS), (VALUE, 5, 5), (WHERE, 5))

    def test_refusals(self):
        for d in NOWHERE:
            self.refused(-8, VALUE, d, 0)
        for d in (1, 62):
            self.refused(-12, VALUE, d, 0)
        for u in (-1, RAW_NUMBERS, HUGE, -HUGE):
            self.refused(-11, VALUE, 5, u)
        self.done(VALUE, 5, 0)
        self.done(VALUE, 5, LAST)

    def test_the_one_told_first(self):
        self.refused(-8, VALUE, 64, -1)
        self.refused(-12, VALUE, 1, -1)


class Draw(CallTest):
    def test_by_hand(self):
        self.answered([0, 335903614 // 2, HALF], (DEFINE, 9, 3, [1], [0, 1, 1, 1]), (DRAW, 9, 0))
        self.answered([0, LAST, RAW_NUMBERS], (SEED, 4, state_for(LAST)), (DEFINE, 9, 3, [1], [0, 1, 1, 1]), (DRAW, 9, 4))

    def test_the_value_at_the_raw_number_that_raw_answers(self):
        for classes in DEFINITIONS:
            for mirror in (0, 1):
                parts = ask(defined(9, classes), (MIRROR, 3, mirror), (COPY, 4, 3), (RAW, 3), (DRAW, 9, 4), (WHERE, 3), (WHERE, 4))
                self.assertEqual(parts[5], parts[6])
                self.answered(parts[4], defined(9, classes), (VALUE, 9, parts[3][1]))
                self.assertEqual(parts[4], [0] + pair(model.value(classes, parts[3][1])))

    def test_takes_one_raw_number(self):
        self.answered([0, follow(8), 8, 1, 0], (DEFINE, 9, 0, [5, 1], []), (DRAW, 9, 8), (WHERE, 8))
        self.answered([0, follow(8, 3), 8, 3, 0], (DEFINE, 9, 1, [5, 9], []), *[(DRAW, 9, 8)] * 3, (WHERE, 8))

    def test_places_and_streams_at_both_ends(self):
        for d in (0, 63):
            for k in (0, 63):
                self.answered([0, raw_numbers(k, 1)[0] * 1000 // RAW_NUMBERS, 1], (DEFINE, d, 1, [0, 999], []), (DRAW, d, k))

    def test_refusals(self):
        for wrong in NOWHERE:
            self.refused(-8, DRAW, wrong, 5)
            self.refused(-1, DRAW, 5, wrong)
        self.refused(-12, DRAW, 1, 5)

    def test_the_one_told_first(self):
        self.refused(-8, DRAW, 64, 64)
        self.refused(-12, DRAW, 1, 64)
        self.refused(-12, DRAW, 62, -1)


class Draws(CallTest):
    def drawn(self, classes, n, mirror=0):
        """What draws answers, after a look at the stream and at the raw numbers on a copy of it."""
        parts = ask(defined(9, classes), (MIRROR, 3, mirror), (COPY, 4, 3), (RAWS, 3, n), (DRAWS, 9, 4, n), (WHERE, 3), (WHERE, 4))
        self.assertEqual(parts[5], parts[6])
        values = [number for u in parts[3][2:] for number in pair(model.value(classes, u))]
        self.assertEqual(parts[4], [0, n] + values)
        return values

    def test_the_values_at_the_raw_numbers_that_raws_answers(self):
        for classes in DEFINITIONS:
            for mirror in (0, 1):
                for n in (0, 1, 2, 16, 17, 40, 100):
                    self.drawn(classes, n, mirror)

    def test_as_value_and_as_draw(self):
        for classes in (GAPS, LARGE):
            raws = raw_numbers(3, 40)
            values = [part[1:] for part in ask(defined(9, classes), *[(VALUE, 9, u) for u in raws])[1:]]
            singles = [part[1:] for part in ask(defined(9, classes), *[(DRAW, 9, 3)] * 40)[1:]]
            together = ask(defined(9, classes), (DRAWS, 9, 3, 40))[1][2:]
            self.assertEqual(values, singles)
            self.assertEqual(sum(values, []), together)

    def test_a_thousand(self):
        self.assertEqual(len(self.drawn(MANY, 1000)), 2000)
        self.drawn(LARGE, 1000)
        # Values of 0 and values that have much in common with their bottom.
        self.drawn([line(3, 0, 0), comb(5, -6, 3, 5), line(1, -1, 1), point(4, 0)], 1000)

    def test_one_bottom_in_many_classes(self):
        bottom = 2 ** 20 * 3 ** 9 * 5 ** 8
        self.drawn([comb(1, Fraction(i, bottom), Fraction(6 ** i, bottom), 1000) for i in range(20)], 1000)

    def test_none(self):
        self.answered([0, 0], defined(9, MANY), (DRAWS, 9, 3, 0))
        self.answered([0, 3, 3, 0, 0], defined(9, MANY), (DRAWS, 9, 3, 0), (WHERE, 3))

    def test_takes_as_many_raw_numbers(self):
        for n in (0, 1, 7, 1000):
            self.answered([0, follow(8, n), 8, n, 0], (DEFINE, 9, 0, [5, 1], []), (DRAWS, 9, 8, n), (WHERE, 8))

    def test_refusals(self):
        for wrong in NOWHERE:
            self.refused(-8, DRAWS, wrong, 5, 3)
            self.refused(-1, DRAWS, 5, wrong, 3)
        self.refused(-12, DRAWS, 1, 5, 3)
        for n in (-1, 1001, HUGE, -HUGE):
            self.refused(-3, DRAWS, 5, 5, n)

    def test_the_one_told_first(self):
        self.refused(-8, DRAWS, 64, 64, -1)
        self.refused(-8, DRAWS, -1, 5, 1001)
        self.refused(-12, DRAWS, 1, 64, -1)
        self.refused(-12, DRAWS, 1, 5, 1001)
        self.refused(-1, DRAWS, 5, 64, -1)


class Shares(CallTest):
    def of(self, *weights):
        return ask((DEFINE, 9, 2, list(weights), [1, 1] * len(weights)), (SHARES, 9))[1]

    def test_weights_that_divide_the_raw_numbers(self):
        self.assertEqual(self.of(1), [0, 1, RAW_NUMBERS])
        self.assertEqual(self.of(10 ** 40), [0, 1, RAW_NUMBERS])
        self.assertEqual(self.of(1, 1), [0, 2, HALF, HALF])
        self.assertEqual(self.of(3, 1), [0, 2, 3 * QUARTER, QUARTER])
        self.assertEqual(self.of(*[1] * 64), [0, 64] + [2 ** 26] * 64)

    def test_weights_that_do_not(self):
        self.assertEqual(self.of(1, 1, 1), [0, 3, 1431655766, 1431655765, 1431655765])
        self.assertEqual(self.of(1, 2), [0, 2, 1431655766, 2863311530])
        self.assertEqual(self.of(2, 1), [0, 2, 2863311531, 1431655765])
        self.assertEqual(self.of(3, 3, 1), [0, 3, 1840700270, 1840700270, 613566756])

    def test_weights_of_0(self):
        self.assertEqual(self.of(0, 1, 0, 1, 0, 0), [0, 6, 0, HALF, 0, HALF, 0, 0])
        self.assertEqual(self.of(0, 0, 5), [0, 3, 0, 0, RAW_NUMBERS])
        self.assertEqual(self.of(5, 0, 0), [0, 3, RAW_NUMBERS, 0, 0])

    def test_weights_too_light(self):
        # The first is taken at 0 alone, the last nowhere.
        self.assertEqual(self.of(1, 10 ** 39, 1), [0, 3, 1, LAST, 0])
        self.assertEqual(self.of(1, 1, 10 ** 39), [0, 3, 1, 0, LAST])

    def test_the_sum_and_the_bounds(self):
        for classes in DEFINITIONS:
            answer = ask(defined(9, classes), (SHARES, 9))[1]
            self.assertEqual(answer, [0, len(classes)] + model.shares(classes))
            self.assertEqual(sum(answer[2:]), RAW_NUMBERS)

    def test_against_value(self):
        weights = [0, 7, 1, 0, 0, 12, 3, 3, 0, 10 ** 6, 2, 0]
        shares = ask((DEFINE, 9, 2, weights, [n for i in range(12) for n in (i, 1)]), (SHARES, 9))[1][2:]
        calls = []
        expected = []
        start = 0
        for i, share in enumerate(shares):
            if share > 0:
                calls += [(VALUE, 9, start), (VALUE, 9, start + share - 1)]
                expected += [[0, i, 1]] * 2
            start += share
        parts = ask((DEFINE, 9, 2, weights, [n for i in range(12) for n in (i, 1)]), *calls)
        self.assertEqual(parts[1:], expected)

    def test_refusals(self):
        for d in NOWHERE:
            self.refused(-8, SHARES, d)
        for d in (1, 62):
            self.refused(-12, SHARES, d)
