"""The calls whole and choose."""

from fractions import Fraction

from tests.support import (
    CHOOSE, HALF, HUGE, LAST, MIRROR, MOST, NOWHERE, RAW_NUMBERS, SEED, STATES, WHERE, WHOLE,
    CallTest, ask, follow, raw_numbers, state_for,
)


class Whole(CallTest):
    def at(self, u, a, b):
        return ask((SEED, 3, state_for(u)), (WHOLE, 3, a, b))[1]

    def test_ordinary(self):
        expected = [[0, 1 + u * 6 // RAW_NUMBERS] for u in raw_numbers(2, 100)]
        self.assertEqual(ask(*[(WHOLE, 2, 1, 6)] * 100), expected)
        self.assertEqual({part[1] for part in expected}, {1, 2, 3, 4, 5, 6})

    def test_known_numbers(self):
        self.assertEqual(ask((WHOLE, 0, 0, 99), (WHOLE, 1, -50, 49)), [[0, 7], [0, -8]])

    def test_where_one_number_gives_way_to_the_next(self):
        self.assertEqual(self.at(0, 0, 1), [0, 0])
        self.assertEqual(self.at(HALF - 1, 0, 1), [0, 0])
        self.assertEqual(self.at(HALF, 0, 1), [0, 1])
        self.assertEqual(self.at(LAST, 0, 1), [0, 1])

    def test_rounded_down_below_0_too(self):
        self.assertEqual(self.at(0, -7, -5), [0, -7])
        self.assertEqual(self.at(1431655765, -7, -5), [0, -7])
        self.assertEqual(self.at(1431655766, -7, -5), [0, -6])
        self.assertEqual(self.at(LAST, -7, -5), [0, -5])

    def test_the_widest_range(self):
        self.assertEqual(self.at(0, -MOST, MOST), [0, -MOST])
        self.assertEqual(self.at(HALF, -MOST, MOST), [0, 0])
        self.assertEqual(self.at(LAST, -MOST, MOST), [0, 999999999534338713])

    def test_one_number(self):
        for a in (-MOST, -1, 0, 5, MOST):
            for u in (0, HALF, LAST):
                self.assertEqual(self.at(u, a, a), [0, a])

    def test_takes_one_raw_number(self):
        self.answered([0, follow(8), 8, 1, 0], (WHOLE, 8, 1, 6), (WHERE, 8))
        self.answered([0, follow(8), 8, 1, 0], (WHOLE, 8, 6, 6), (WHERE, 8))

    def test_of_a_mirrored_stream(self):
        self.answered([0, 92], (MIRROR, 0, 1), (WHOLE, 0, 0, 99))

    def test_streams_at_both_ends(self):
        for k in (0, 63):
            self.answered([0, raw_numbers(k, 1)[0] * 1000 // RAW_NUMBERS], (WHOLE, k, 0, 999))

    def test_refusals(self):
        for k in NOWHERE:
            self.refused(-1, WHOLE, k, 1, 6)
        for a, b in ((-MOST - 1, 0), (0, MOST + 1), (MOST + 1, MOST + 1), (-MOST - 1, -MOST - 1), (-HUGE, HUGE),
                     (-MOST - 1, MOST + 1), (1, 0), (MOST, -MOST), (MOST, MOST - 1), (HUGE, 0), (0, -HUGE)):
            self.refused(-5, WHOLE, 0, a, b)

    def test_the_stream_is_refused_before_the_range(self):
        self.refused(-1, WHOLE, 64, 6, 1)
        self.refused(-1, WHOLE, -1, 0, MOST + 1)


class Choose(CallTest):
    def at(self, u, weights):
        return ask((SEED, 3, state_for(u)), (CHOOSE, 3, weights))[1]

    def by_words(self, u, weights):
        """The first whose part, with all before it, is above u / 2^32."""
        for place in range(len(weights)):
            if Fraction(u, RAW_NUMBERS) < Fraction(sum(weights[:place + 1]), sum(weights)):
                return place

    def test_ordinary(self):
        weights = [5, 0, 1, 30, 7]
        expected = [[0, self.by_words(u, weights)] for u in raw_numbers(2, 100)]
        self.assertEqual(ask(*[(CHOOSE, 2, weights)] * 100), expected)
        self.assertEqual({part[1] for part in expected}, {0, 2, 3, 4})

    def test_where_one_place_gives_way_to_the_next(self):
        self.assertEqual(self.at(0, [1, 1]), [0, 0])
        self.assertEqual(self.at(HALF - 1, [1, 1]), [0, 0])
        self.assertEqual(self.at(HALF, [1, 1]), [0, 1])
        self.assertEqual(self.at(LAST, [1, 1]), [0, 1])
        self.assertEqual(self.at(1431655765, [1, 1, 1]), [0, 0])
        self.assertEqual(self.at(1431655766, [1, 1, 1]), [0, 1])

    def test_weights_of_0(self):
        self.assertEqual(self.at(0, [0, 0, 1]), [0, 2])
        self.assertEqual(self.at(LAST, [0, 0, 1]), [0, 2])
        self.assertEqual(self.at(HALF - 1, [1, 0, 0, 1]), [0, 0])
        self.assertEqual(self.at(HALF, [1, 0, 0, 1]), [0, 3])
        self.assertEqual(self.at(LAST, [1, 0, 0]), [0, 0])
        self.assertEqual(self.at(0, [0, 1, 0, 1, 0]), [0, 1])
        self.assertEqual(self.at(LAST, [0, 1, 0, 1, 0]), [0, 3])

    def test_one_weight(self):
        for weight in (1, 7, 10 ** 40):
            for u in (0, HALF, LAST):
                self.assertEqual(self.at(u, [weight]), [0, 0])

    def test_64_weights(self):
        weights = list(range(1, 65))
        for u in raw_numbers(5, 50) + [0, LAST]:
            self.assertEqual(self.at(u, weights), [0, self.by_words(u, weights)])
        for place in range(64):
            self.assertEqual(self.at(place * 2 ** 26, [1] * 64), [0, place])
            self.assertEqual(self.at((place + 1) * 2 ** 26 - 1, [1] * 64), [0, place])

    def test_sums_at_both_ends(self):
        self.assertEqual(self.at(LAST, [0, 1, 0]), [0, 1])
        half = 10 ** 40 // 2
        self.assertEqual(self.at(HALF - 1, [half, half]), [0, 0])
        self.assertEqual(self.at(HALF, [half, half]), [0, 1])
        self.assertEqual(self.at(HALF, [half + 1, half - 1]), [0, 0])
        self.assertEqual(self.at(HALF - 1, [half - 1, half + 1]), [0, 0])
        self.assertEqual(self.at(LAST, [10 ** 40 - 1, 1]), [0, 0])

    def test_takes_one_raw_number(self):
        self.answered([0, follow(8), 8, 1, 0], (CHOOSE, 8, [2, 3]), (WHERE, 8))
        self.answered([0, follow(8), 8, 1, 0], (CHOOSE, 8, [2]), (WHERE, 8))

    def test_of_a_mirrored_stream(self):
        self.answered([0, 0], (SEED, 3, state_for(LAST)), (MIRROR, 3, 1), (CHOOSE, 3, [1, 1, 1]))

    def test_streams_at_both_ends(self):
        for k in (0, 63):
            self.answered([0, self.by_words(raw_numbers(k, 1)[0], [1] * 50)], (CHOOSE, k, [1] * 50))

    def test_no_stream(self):
        for k in NOWHERE:
            self.refused(-1, CHOOSE, k, [1, 2])

    def test_weights_that_are_not_right(self):
        for weights in ([], [1] * 65, [0] * 64 + [1], [1] * 2000, [-1], [5, -1], [-1, 5], [5, -1, 5], [5, -HUGE], [0], [0, 0, 0],
                        [10 ** 40 + 1], [10 ** 40, 1], [1, 10 ** 40], [HUGE], [HUGE, -HUGE, 1], [10 ** 40 + 1, -1]):
            self.refused(-6, CHOOSE, 0, weights)

    def test_the_stream_is_refused_before_the_weights(self):
        self.refused(-1, CHOOSE, 64, [])
        self.refused(-1, CHOOSE, -1, [0])
        self.refused(-1, CHOOSE, STATES, [1] * 65)
