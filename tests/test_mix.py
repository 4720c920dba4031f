"""The calls mix and lots."""

from fractions import Fraction

from tests.support import (
    CHOOSE, COPY, HALF, HUGE, LAST, LOTS, MIRROR, MIX, MOST, NOWHERE, RAW_NUMBERS, RAWS, SEED, SHUFFLE, WHERE,
    CallTest, ask, follow, raw_numbers, state_for,
)


class Mix(CallTest):
    def test_known_rows(self):
        self.answered([0, 5, 10, 30, 50, 40, 20], (MIX, 3, [10, 20, 30, 40, 50]))
        self.answered([0, 5, -1, -1, 7, 0, -1], (MIX, 3, [-1, -1, -1, 0, 7]))

    def test_as_shuffle_with_the_places_put_for_the_numbers(self):
        for n in (0, 1, 2, 3, 10, 999, 1000):
            row = [(i - 3) * 10 ** 14 for i in range(n)]
            for k in (0, 17, 63):
                parts = ask((MIX, k, row), (WHERE, k), (SEED, k, k), (SHUFFLE, k, n), (WHERE, k))
                self.assertEqual(parts[0], [0, n] + [row[place] for place in parts[3][2:]])
                self.assertEqual(parts[1], parts[4])

    def test_by_the_words(self):
        row = [5, 5, -9, 0, 12, 7]
        mixed = list(row)
        for i, u in enumerate(raw_numbers(40, 6)):
            j = i + u * (6 - i) // RAW_NUMBERS
            mixed[i], mixed[j] = mixed[j], mixed[i]
        self.answered([0, 6] + mixed, (MIX, 40, row))

    def test_the_first_exchange_at_both_ends(self):
        self.assertEqual(ask((SEED, 8, state_for(0)), (MIX, 8, [4, 5, 6]))[1][2], 4)
        self.assertEqual(ask((SEED, 8, state_for(LAST)), (MIX, 8, [4, 5, 6]))[1][2], 6)

    def test_takes_as_many_raw_numbers_as_the_row_has(self):
        for n in (0, 1, 2, 10, 1000):
            self.answered([0, follow(8, n), 8, n, 0], (MIX, 8, [3] * n), (WHERE, 8))

    def test_empty_and_one(self):
        self.answered([0, 0], (MIX, 8, []))
        self.answered([0, 1, -4], (MIX, 8, [-4]))

    def test_the_longest_row(self):
        row = list(range(-500, 500))
        answer = ask((MIX, 8, row))[0]
        self.assertEqual(answer[:2], [0, 1000])
        self.assertEqual(sorted(answer[2:]), row)
        self.assertNotEqual(answer[2:], row)

    def test_the_largest_numbers(self):
        answer = ask((MIX, 8, [MOST, -MOST, 0]))[0]
        self.assertEqual(sorted(answer[2:]), [-MOST, 0, MOST])

    def test_of_a_mirrored_stream(self):
        parts = ask((MIRROR, 8, 1), (MIX, 8, [10, 20, 30, 40, 50, 60]), (SEED, 8, 8), (MIRROR, 8, 1), (SHUFFLE, 8, 6))
        self.assertEqual(parts[1][2:], [10 + 10 * place for place in parts[4][2:]])

    def test_refusals(self):
        for k in NOWHERE:
            self.refused(-1, MIX, k, [1, 2, 3])
        for n in (1001, 2000):
            self.refused(-3, MIX, 5, [1] * n)
        for wrong in (MOST + 1, -MOST - 1, HUGE, -HUGE):
            self.refused(-5, MIX, 5, [wrong])
            self.refused(-5, MIX, 5, [wrong, 1, 2])
            self.refused(-5, MIX, 5, [1, wrong, 2])
            self.refused(-5, MIX, 5, [1] * 999 + [wrong])

    def test_the_one_told_first(self):
        self.refused(-1, MIX, 64, [1] * 1001)
        self.refused(-1, MIX, -1, [HUGE])
        self.refused(-1, MIX, -1, [HUGE] * 1001)
        self.refused(-3, MIX, 5, [HUGE] * 1001)
        self.refused(-3, MIX, 5, [1] * 1000 + [HUGE])


def lots(numbers, weights):
    """The places that the raw numbers choose one after another, by the document's words."""
    left = list(weights)
    places = []
    for u in numbers:
        for place in range(len(left)):
            if Fraction(u, RAW_NUMBERS) < Fraction(sum(left[:place + 1]), sum(left)):
                break
        places.append(place)
        left[place] = 0
    return places


class Lots(CallTest):
    def test_known_lots(self):
        # The raw numbers of stream 1 are 1817669548, 2187888307, ... of 4294967296.
        self.assertEqual(raw_numbers(1, 2), [1817669548, 2187888307])
        self.answered([0, 1, 0], (LOTS, 1, 1, [1, 1]))
        self.answered([0, 1, 1], (LOTS, 1, 1, [2, 3]))
        # The first is 42 of a hundred and falls to place 1; then 50 of a hundred among [2, 0, 1].
        self.answered([0, 2, 1, 0], (LOTS, 1, 2, [2, 3, 1]))
        # Then among [1, 0, 1] the second falls to the place behind the middle.
        self.answered([0, 2, 1, 2], (LOTS, 1, 2, [1, 3, 1]))

    def test_by_the_words(self):
        for weights in ([1, 1], [5, 0, 1, 30, 7], [0, 0, 4, 0, 1, 0], list(range(64)), [1] * 64, [10 ** 38 + i for i in range(60)]):
            most = len([weight for weight in weights if weight > 0])
            for m in {0, 1, 2, most // 2, most - 1, most}:
                for k in (0, 17, 63):
                    self.answered([0, m] + lots(raw_numbers(k, m), weights), (LOTS, k, m, weights))

    def test_the_first_as_by_choose(self):
        weights = [3, 0, 9, 4, 4]
        for k in range(20):
            parts = ask((LOTS, k, 1, weights), (WHERE, k), (SEED, k, k), (CHOOSE, k, weights), (WHERE, k))
            self.assertEqual(parts[0], [0, 1, parts[3][1]])
            self.assertEqual(parts[1], parts[4])

    def test_the_weight_is_0_from_then_on_and_the_sum_is_less(self):
        weights = [3, 0, 9, 4, 4]
        for k in range(20):
            first = ask((LOTS, k, 1, weights))[0][2]
            left = [0 if place == first else weight for place, weight in enumerate(weights)]
            second = ask((RAWS, k, 1), (CHOOSE, k, left))[1][1]
            self.answered([0, 2, first, second], (LOTS, k, 2, weights))

    def test_where_one_place_gives_way_to_the_next(self):
        for u, place in ((0, 1), (HALF - 1, 1), (HALF, 3), (LAST, 3)):
            self.answered([0, 1, place], (SEED, 3, state_for(u)), (LOTS, 3, 1, [0, 1, 0, 1, 0]))

    def test_no_place_twice(self):
        for k in range(10):
            self.assertEqual(sorted(ask((LOTS, k, 64, [7] * 64))[0][2:]), list(range(64)))
        weights = [0, 5, 0, 10 ** 30, 1, 0]
        for k in range(10):
            self.assertEqual(sorted(ask((LOTS, k, 3, weights))[0][2:]), [1, 3, 4])

    def test_none(self):
        self.answered([0, 0], (LOTS, 8, 0, [1, 2]))
        self.answered([0, 8, 8, 0, 0], (LOTS, 8, 0, [1, 2]), (WHERE, 8))

    def test_one_weight(self):
        self.answered([0, 1, 0], (LOTS, 8, 1, [10 ** 40]))
        self.answered([0, 1, 2], (LOTS, 8, 1, [0, 0, 1, 0]))

    def test_takes_as_many_raw_numbers_as_lots(self):
        for m in (0, 1, 2, 5):
            self.answered([0, follow(8, m), 8, m, 0], (LOTS, 8, m, [1, 0, 2, 3, 4, 5]), (WHERE, 8))

    def test_of_a_mirrored_stream(self):
        weights = [3, 0, 9, 4, 4]
        mirrored = [LAST - u for u in raw_numbers(8, 4)]
        self.answered([0, 4] + lots(mirrored, weights), (MIRROR, 8, 1), (LOTS, 8, 4, weights))

    def test_the_same_lots_on_a_copy(self):
        parts = ask((COPY, 9, 8), (LOTS, 8, 3, [1, 2, 3, 4]), (LOTS, 9, 3, [1, 2, 3, 4]))
        self.assertEqual(parts[1], parts[2])

    def test_refusals(self):
        for k in NOWHERE:
            self.refused(-1, LOTS, k, 1, [1, 2])
        for weights in ([], [1] * 65, [0] * 64 + [1], [1] * 2000, [-1], [5, -1], [-1, 5], [0], [0, 0, 0],
                        [10 ** 40 + 1], [10 ** 40, 1], [HUGE, -HUGE, 1]):
            self.refused(-6, LOTS, 0, 1, weights)
        for weights, most in (([1], 1), ([0, 1, 0], 1), ([1, 0, 2, 0, 3], 3), ([1] * 64, 64)):
            self.done(LOTS, 0, most, weights)
            for m in (-1, most + 1, HUGE, -HUGE):
                self.refused(-7, LOTS, 0, m, weights)

    def test_the_one_told_first(self):
        self.refused(-1, LOTS, 64, 1, [])
        self.refused(-1, LOTS, -1, 9, [1])
        self.refused(-6, LOTS, 0, -1, [])
        self.refused(-6, LOTS, 0, 1, [0, 0])
        self.refused(-6, LOTS, 0, 66, [1] * 65)
