"""The calls shuffle and sample."""

from tests.support import (
    HUGE, MIRROR, NOWHERE, RAW_NUMBERS, SAMPLE, SEED, SHUFFLE, STATES, WHERE,
    CallTest, ask, follow, precede, raw_numbers,
)


def exchanged(numbers, n, m):
    """The row after m exchanges by the raw numbers, by the document's words."""
    row = list(range(n))
    for i in range(m):
        j = i + numbers[i] * (n - i) // RAW_NUMBERS
        row[i], row[j] = row[j], row[i]
    return row


class Shuffle(CallTest):
    def test_known_rows(self):
        self.answered([0, 10, 1, 3, 7, 5, 2, 6, 8, 0, 9, 4], (SHUFFLE, 3, 10))
        self.answered([0, 5, 0, 2, 4, 3, 1], (SHUFFLE, 3, 5))

    def test_by_the_words(self):
        for n in (2, 3, 7, 64, 999, 1000):
            for k in (0, 17, 63):
                self.answered([0, n] + exchanged(raw_numbers(k, n), n, n), (SHUFFLE, k, n))

    def test_every_place_once(self):
        row = ask((SHUFFLE, 20, 1000))[0][2:]
        self.assertEqual(sorted(row), list(range(1000)))

    def test_takes_as_many_raw_numbers(self):
        for n in (0, 1, 2, 10, 1000):
            self.answered([0, follow(8, n), 8, n, 0], (SHUFFLE, 8, n), (WHERE, 8))

    def test_empty_and_one(self):
        self.answered([0, 0], (SHUFFLE, 8, 0))
        self.answered([0, 1, 0], (SHUFFLE, 8, 1))

    def test_goes_on_where_the_stream_stands(self):
        numbers = raw_numbers(8, 12)
        parts = ask((SHUFFLE, 8, 6), (SHUFFLE, 8, 6))
        self.assertEqual(parts, [[0, 6] + exchanged(numbers[:6], 6, 6), [0, 6] + exchanged(numbers[6:], 6, 6)])

    def test_of_a_mirrored_stream(self):
        mirrored = [RAW_NUMBERS - 1 - u for u in raw_numbers(8, 6)]
        self.answered([0, 6] + exchanged(mirrored, 6, 6), (MIRROR, 8, 1), (SHUFFLE, 8, 6))

    def test_the_first_exchange_at_both_ends(self):
        self.assertEqual(ask((SEED, 8, precede(0)), (SHUFFLE, 8, 9))[1][2], 0)
        self.assertEqual(ask((SEED, 8, precede(STATES - 1)), (SHUFFLE, 8, 9))[1][2], 8)

    def test_refusals(self):
        for k in NOWHERE:
            self.refused(-1, SHUFFLE, k, 5)
        for n in (-1, 1001, -HUGE, HUGE):
            self.refused(-3, SHUFFLE, 5, n)

    def test_the_stream_is_refused_before_the_length(self):
        self.refused(-1, SHUFFLE, 64, -1)


class Sample(CallTest):
    def test_known_row(self):
        self.answered([0, 4, 1, 3, 7, 5], (SAMPLE, 3, 10, 4))

    def test_by_the_words(self):
        for n, m in ((2, 1), (7, 3), (7, 6), (64, 20), (1000, 1), (1000, 500), (1000, 999)):
            for k in (0, 17, 63):
                self.answered([0, m] + exchanged(raw_numbers(k, m), n, m)[:m], (SAMPLE, k, n, m))

    def test_takes_as_many_raw_numbers_as_are_answered(self):
        for n, m in ((0, 0), (9, 0), (9, 1), (9, 4), (9, 9), (1000, 3)):
            self.answered([0, follow(8, m), 8, m, 0], (SAMPLE, 8, n, m), (WHERE, 8))

    def test_the_whole_row_is_as_shuffle_answers(self):
        for n in (0, 1, 2, 10, 1000):
            parts = ask((SAMPLE, 8, n, n), (WHERE, 8), (SEED, 8, 8), (SHUFFLE, 8, n), (WHERE, 8))
            self.assertEqual(parts[:2], parts[3:])

    def test_none_of_the_row(self):
        for n in (0, 1, 1000):
            self.answered([0, 0], (SAMPLE, 8, n, 0))

    def test_refusals(self):
        for k in NOWHERE:
            self.refused(-1, SAMPLE, k, 5, 2)
        for n in (-1, 1001, -HUGE, HUGE):
            self.refused(-3, SAMPLE, 5, n, 0)
        for n in (0, 1, 9, 1000):
            for m in (-1, n + 1, -HUGE, HUGE):
                self.refused(-7, SAMPLE, 5, n, m)

    def test_the_one_told_first(self):
        self.refused(-1, SAMPLE, 64, 1001, -1)
        self.refused(-1, SAMPLE, -1, 9, 10)
        self.refused(-3, SAMPLE, 5, -1, -1)
        self.refused(-3, SAMPLE, 5, 1001, 1002)
