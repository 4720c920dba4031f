"""The streams, and the calls seed, raw, raws, skip, back, mirror, where."""

from tests.support import (
    BACK, EVERYWHERE, HUGE, MIRROR, NOWHERE, RAW, RAWS, SEED, SKIP, STATES, WHERE,
    CallTest, ask, follow, jump, precede, raw_numbers,
)

NO_STEPS = (-1, STATES, -HUGE, HUGE)


class Beginning(CallTest):
    def test_stream_k_has_state_k_seed_k_count_0_mirror_0(self):
        self.assertEqual(ask(*EVERYWHERE), [[0, k, k, 0, 0] for k in range(64)])


class Where(CallTest):
    def test_both_ends_of_the_streams(self):
        self.answered([0, 0, 0, 0, 0], (WHERE, 0))
        self.answered([0, 63, 63, 0, 0], (WHERE, 63))

    def test_tells_state_seed_count_mirror_in_this_order(self):
        self.answered([0, follow(9, 2), 9, 2, 1], (SEED, 4, 9), (RAWS, 4, 2), (MIRROR, 4, 1), (WHERE, 4))

    def test_no_stream(self):
        for k in NOWHERE:
            self.refused(-1, WHERE, k)


class Seed(CallTest):
    def test_sets_state_and_seed_and_clears_count_and_mirror(self):
        before = [(RAWS, 7, 5), (MIRROR, 7, 1)]
        self.assertEqual(ask(*before, (SEED, 7, 1234), (WHERE, 7))[2:], [[0], [0, 1234, 1234, 0, 0]])

    def test_both_ends(self):
        for k in (0, 63):
            for s in (0, STATES - 1):
                self.assertEqual(ask((SEED, k, s), (WHERE, k)), [[0], [0, s, s, 0, 0]])

    def test_leaves_the_other_streams(self):
        parts = ask((SEED, 7, 1234), *EVERYWHERE)[1:]
        del parts[7]
        self.assertEqual(parts, [[0, k, k, 0, 0] for k in range(64) if k != 7])

    def test_refusals(self):
        for k in NOWHERE:
            self.refused(-1, SEED, k, 5)
        for s in NO_STEPS:
            self.refused(-2, SEED, 5, s)

    def test_the_stream_is_refused_before_the_state(self):
        self.refused(-1, SEED, 64, STATES)


class Raw(CallTest):
    def test_known_numbers(self):
        self.assertEqual(ask((RAW, 0), (RAW, 0), (RAW, 1)), [[0, 335903614], [0, 436792849], [0, 1817669548]])

    def test_makes_a_step(self):
        self.answered([0, 1442695040888963407, 0, 1, 0], (RAW, 0), (WHERE, 0))

    def test_both_ends_of_the_raw_numbers(self):
        for state in (0, 2 ** 32 - 1):
            self.answered([0, 0], (SEED, 2, precede(state)), (RAW, 2))
        for state in (STATES - 2 ** 32, STATES - 1):
            self.answered([0, 2 ** 32 - 1], (SEED, 2, precede(state)), (RAW, 2))
        self.answered([0, 1], (SEED, 2, precede(2 ** 32)), (RAW, 2))

    def test_streams_at_both_ends(self):
        for k in (0, 63):
            self.answered([0] + raw_numbers(k, 1), (RAW, k))

    def test_no_stream(self):
        for k in NOWHERE:
            self.refused(-1, RAW, k)


class Raws(CallTest):
    def test_known_numbers_with_their_length_before_them(self):
        expected = [0, 5, 1817669548, 2187888307, 2784682393, 1644385741, 3416422068]
        self.answered(expected, (RAWS, 1, 5))

    def test_as_many_steps(self):
        self.answered([0, follow(3, 8), 3, 8, 0], (RAWS, 3, 8), (WHERE, 3))

    def test_goes_on_where_it_stood(self):
        parts = ask((RAWS, 3, 4), (RAW, 3), (RAWS, 3, 2))
        self.assertEqual(parts[0][2:] + parts[1][1:] + parts[2][2:], raw_numbers(3, 7))

    def test_none(self):
        self.assertEqual(ask((RAWS, 3, 0), (WHERE, 3)), [[0, 0], [0, 3, 3, 0, 0]])

    def test_a_thousand(self):
        for k in (0, 63):
            self.answered([0, 1000] + raw_numbers(k, 1000), (RAWS, k, 1000))

    def test_refusals(self):
        for k in NOWHERE:
            self.refused(-1, RAWS, k, 5)
        for n in (-1, 1001, -HUGE, HUGE):
            self.refused(-3, RAWS, 5, n)

    def test_the_stream_is_refused_before_the_length(self):
        self.refused(-1, RAWS, -1, 1001)


class Skip(CallTest):
    def test_as_many_steps_one_by_one(self):
        for n in range(20):
            self.assertEqual(ask((SKIP, 9, n), (WHERE, 9)), [[0], [0, follow(9, n), 9, n, 0]])

    def test_many_steps(self):
        self.answered([0, 17340459916551650330, 12345678901234567890, 1000, 0],
                      (SEED, 0, 12345678901234567890), (SKIP, 0, 1000), (WHERE, 0))
        self.answered([0, 14163156451532996615, 7, 10 ** 19, 0], (SKIP, 7, 10 ** 19), (WHERE, 7))

    def test_the_ends_of_the_steps(self):
        last = STATES - 1
        self.answered([0, 0, 0, 0, 0], (SKIP, 0, 0), (WHERE, 0))
        self.answered([0, precede(63), 63, last, 0], (SKIP, 63, last), (WHERE, 63))
        self.answered([0, 2 ** 63, 0, 2 ** 63, 0], (SKIP, 0, 2 ** 63), (WHERE, 0))

    def test_counts_grow_beyond_the_states(self):
        last = STATES - 1
        self.answered([0, precede(5, 2), 5, 2 * last, 0], (SKIP, 5, last), (SKIP, 5, last), (WHERE, 5))

    def test_keeps_the_mirror(self):
        self.answered([0, follow(5, 3), 5, 3, 1], (MIRROR, 5, 1), (SKIP, 5, 3), (WHERE, 5))

    def test_refusals(self):
        for k in NOWHERE:
            self.refused(-1, SKIP, k, 5)
        for n in NO_STEPS:
            self.refused(-2, SKIP, 5, n)

    def test_the_stream_is_refused_before_the_steps(self):
        self.refused(-1, SKIP, 64, -1)


class Back(CallTest):
    def test_as_many_steps_one_by_one(self):
        for n in range(20):
            self.assertEqual(ask((BACK, 9, n), (WHERE, 9)), [[0], [0, precede(9, n), 9, -n, 0]])

    def test_known_state(self):
        self.answered([0, 11066951453180645397, 0, -1, 0], (BACK, 0, 1), (WHERE, 0))

    def test_many_steps(self):
        for n in (1000, 10 ** 9, 2 ** 63 - 1, 2 ** 63, 10 ** 19, STATES - 1):
            parts = ask((BACK, 63, n), (WHERE, 63))
            self.assertEqual(parts[1][2:], [63, -n, 0])
            self.assertEqual(jump(parts[1][1], n), 63)

    def test_the_greatest_number_of_steps_is_one_forwards(self):
        self.answered([0, follow(0), 0, 1 - STATES, 0], (BACK, 0, STATES - 1), (WHERE, 0))

    def test_undoes_skip_and_is_undone_by_it(self):
        for n in (0, 1, 77, 10 ** 19, STATES - 1):
            self.answered([0, 5, 5, 0, 0], (SKIP, 5, n), (BACK, 5, n), (WHERE, 5))
            self.answered([0, 5, 5, 0, 0], (BACK, 5, n), (SKIP, 5, n), (WHERE, 5))

    def test_the_same_raw_numbers_come_again(self):
        parts = ask((RAWS, 8, 6), (BACK, 8, 6), (RAWS, 8, 6))
        self.assertEqual(parts[0], parts[2])

    def test_keeps_the_mirror(self):
        self.answered([0, precede(5, 3), 5, -3, 1], (MIRROR, 5, 1), (BACK, 5, 3), (WHERE, 5))

    def test_refusals(self):
        for k in NOWHERE:
            self.refused(-1, BACK, k, 5)
        for n in NO_STEPS:
            self.refused(-2, BACK, 5, n)

    def test_the_stream_is_refused_before_the_steps(self):
        self.refused(-1, BACK, -1, STATES)


class Mirror(CallTest):
    def test_sets_the_mirror_alone(self):
        for k in (0, 63):
            self.assertEqual(ask((MIRROR, k, 1), (WHERE, k)), [[0], [0, k, k, 0, 1]])
            self.answered([0, k, k, 0, 0], (MIRROR, k, 1), (MIRROR, k, 0), (WHERE, k))
            self.answered([0, k, k, 0, 1], (MIRROR, k, 1), (MIRROR, k, 1), (WHERE, k))

    def test_mirrored_raw_numbers(self):
        self.answered([0, 2 ** 32 - 1 - 335903614], (MIRROR, 0, 1), (RAW, 0))
        parts = ask((RAWS, 4, 50), (SEED, 4, 4), (MIRROR, 4, 1), (RAWS, 4, 50), (WHERE, 4))
        self.assertEqual([plain + mirrored for plain, mirrored in zip(parts[0][2:], parts[3][2:])], [2 ** 32 - 1] * 50)
        self.assertEqual(parts[4], [0, follow(4, 50), 4, 50, 1])

    def test_mirrored_ends(self):
        self.answered([0, 2 ** 32 - 1], (SEED, 2, precede(0)), (MIRROR, 2, 1), (RAW, 2))
        self.answered([0, 0], (SEED, 2, precede(STATES - 1)), (MIRROR, 2, 1), (RAW, 2))

    def test_refusals(self):
        for k in NOWHERE:
            self.refused(-1, MIRROR, k, 1)
        for b in (-1, 2, -HUGE, HUGE):
            self.refused(-4, MIRROR, 5, b)
            self.refused(-4, MIRROR, 0, b)

    def test_the_stream_is_refused_before_the_mirror(self):
        self.refused(-1, MIRROR, 64, 2)
