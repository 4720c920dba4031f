"""The calls far, goto, copy, space."""

from tests.support import (
    BACK, COPY, EVERYWHERE, FAR, GOTO, HUGE, MIRROR, NOWHERE, RAWS, SEED, SKIP, SPACE, STATES, UNEVEN, WHERE,
    CallTest, ask, follow, jump, precede,
)

NO_STEPS = (-1, STATES, -HUGE, HUGE)
SOME_STATES = (0, 1, 2, 63, 2 ** 32, 2 ** 63, 12345678901234567890, STATES - 2, STATES - 1)


class Far(CallTest):
    def test_no_way_from_a_state_to_itself(self):
        for x in SOME_STATES:
            self.answered([0, 0], (FAR, x, x))

    def test_small_distances(self):
        for x in SOME_STATES:
            for n in range(12):
                self.answered([0, n], (FAR, x, follow(x, n)))

    def test_large_distances(self):
        for x in SOME_STATES:
            for n in (10 ** 9, 2 ** 63 - 1, 2 ** 63, 10 ** 19, STATES - 2, STATES - 1):
                self.answered([0, n], (FAR, x, jump(x, n)))

    def test_so_many_steps_lead_there(self):
        for x in SOME_STATES:
            for y in SOME_STATES:
                n = ask((FAR, x, y))[0][1]
                self.assertTrue(0 <= n < STATES)
                self.assertEqual(jump(x, n), y)

    def test_one_step_backwards_is_far(self):
        self.answered([0, STATES - 1], (FAR, 0, 11066951453180645397))

    def test_changes_no_stream(self):
        parts = ask(*UNEVEN, *EVERYWHERE, (FAR, 3, 99), *EVERYWHERE)
        self.assertEqual(parts[len(UNEVEN):len(UNEVEN) + 64], parts[len(UNEVEN) + 65:])

    def test_refusals(self):
        for wrong in NO_STEPS:
            self.refused(-2, FAR, wrong, 5)
            self.refused(-2, FAR, 5, wrong)
            self.refused(-2, FAR, wrong, wrong)


class Goto(CallTest):
    def test_answers_the_way_and_goes_it(self):
        parts = ask((RAWS, 5, 2), (MIRROR, 5, 1), (GOTO, 5, follow(5, 9)), (WHERE, 5))
        self.assertEqual(parts[2:], [[0, 7], [0, follow(5, 9), 5, 9, 1]])

    def test_where_it_stands_already(self):
        self.assertEqual(ask((SKIP, 5, 3), (GOTO, 5, follow(5, 3)), (WHERE, 5))[1:], [[0, 0], [0, follow(5, 3), 5, 3, 0]])

    def test_goes_forwards_only(self):
        n = STATES - 4
        self.assertEqual(ask((RAWS, 5, 4), (GOTO, 5, 5), (WHERE, 5))[1:], [[0, n], [0, 5, 5, STATES, 0]])

    def test_from_a_count_below_0(self):
        self.assertEqual(ask((BACK, 5, 4), (GOTO, 5, 5), (WHERE, 5))[1:], [[0, 4], [0, 5, 5, 0, 0]])

    def test_both_ends(self):
        for k in (0, 63):
            for y in (0, STATES - 1):
                way, stands = ask((GOTO, k, y), (WHERE, k))
                self.assertEqual(jump(k, way[1]), y)
                self.assertEqual(stands, [0, y, k, way[1], 0])

    def test_refusals(self):
        for k in NOWHERE:
            self.refused(-1, GOTO, k, 5)
        for y in NO_STEPS:
            self.refused(-2, GOTO, 5, y)

    def test_the_stream_is_refused_before_the_state(self):
        self.refused(-1, GOTO, 64, -1)


class Copy(CallTest):
    def test_takes_over_all_four(self):
        parts = ask((SEED, 9, 70), (RAWS, 9, 3), (MIRROR, 9, 1), (COPY, 4, 9), (WHERE, 4), (WHERE, 9))
        self.assertEqual(parts[3:], [[0], [0, follow(70, 3), 70, 3, 1], [0, follow(70, 3), 70, 3, 1]])

    def test_the_two_go_their_own_ways_afterwards(self):
        parts = ask((COPY, 4, 9), (SKIP, 4, 2), (MIRROR, 9, 1), (WHERE, 4), (WHERE, 9))
        self.assertEqual(parts[3:], [[0, follow(9, 2), 9, 2, 0], [0, 9, 9, 0, 1]])

    def test_onto_itself(self):
        parts = ask((RAWS, 9, 3), (MIRROR, 9, 1), (COPY, 9, 9), (WHERE, 9), (RAWS, 9, 1), (WHERE, 9))
        self.assertEqual(parts[2:4], [[0], [0, follow(9, 3), 9, 3, 1]])
        self.assertEqual(parts[5], [0, follow(9, 4), 9, 4, 1])

    def test_both_ends(self):
        self.answered([0, 63, 63, 0, 0], (COPY, 0, 63), (WHERE, 0))
        self.answered([0, 0, 0, 0, 0], (COPY, 63, 0), (WHERE, 63))

    def test_leaves_the_other_streams(self):
        parts = ask((COPY, 4, 9), *EVERYWHERE)[1:]
        self.assertEqual(parts[:4] + parts[5:], [[0, k, k, 0, 0] for k in range(64) if k != 4])

    def test_refusals(self):
        for wrong in NOWHERE:
            self.refused(-1, COPY, wrong, 5)
            self.refused(-1, COPY, 5, wrong)
            self.refused(-1, COPY, wrong, wrong)


class Space(CallTest):
    def spaced(self, start, n, g):
        """What where answers of the n - 1 streams behind the one whose state is start."""
        states = [jump(start, i * g) for i in range(1, n)]
        return [[0, state, state, 0, 0] for state in states]

    def test_streams_so_far_apart(self):
        before = [(SEED, 10, 5), (RAWS, 10, 2), (MIRROR, 10, 1), (MIRROR, 12, 1), (SKIP, 12, 6)]
        parts = ask(*before, (SPACE, 10, 4, 3), *EVERYWHERE)[len(before):]
        self.assertEqual(parts[0], [0])
        stands = parts[1:]
        self.assertEqual(stands[10], [0, follow(5, 2), 5, 2, 1])
        expected = [follow(5, 5), follow(5, 8), follow(5, 11)]
        self.assertEqual(stands[11:14], [[0, state, state, 0, 0] for state in expected])
        others = [k for k in range(64) if not 10 <= k <= 13]
        self.assertEqual([stands[k] for k in others], [[0, k, k, 0, 0] for k in others])

    def test_all_streams(self):
        for g in (0, 1, 10 ** 18, 2 ** 60, STATES - 1):
            parts = ask((SPACE, 0, 64, g), *EVERYWHERE)
            self.assertEqual(parts[0], [0])
            self.assertEqual(parts[1:], [[0, 0, 0, 0, 0]] + self.spaced(0, 64, g))

    def test_no_gap(self):
        parts = ask((RAWS, 5, 1), (SPACE, 5, 3, 0), (WHERE, 5), (WHERE, 6), (WHERE, 7), (WHERE, 8))
        state = follow(5)
        self.assertEqual(parts[2:], [[0, state, 5, 1, 0], [0, state, state, 0, 0], [0, state, state, 0, 0], [0, 8, 8, 0, 0]])

    def test_the_greatest_gap_goes_backwards(self):
        parts = ask((SPACE, 5, 3, STATES - 1), (WHERE, 6), (WHERE, 7))
        self.assertEqual([part[1] for part in parts[1:]], [precede(5), precede(5, 2)])

    def test_one_stream_changes_nothing(self):
        for k in (0, 30, 63):
            parts = ask(*UNEVEN, *EVERYWHERE, (SPACE, k, 1, 9), *EVERYWHERE)[len(UNEVEN):]
            self.assertEqual(parts[64], [0])
            self.assertEqual(parts[:64], parts[65:])

    def test_up_to_the_last_stream_and_one_beyond(self):
        for k, n in ((0, 64), (1, 63), (40, 24), (62, 2), (63, 1)):
            self.done(SPACE, k, n, 5)
            self.refused(-3, SPACE, k, n + 1, 5)
        state = jump(40, 23 * 5)
        self.answered([0, state, state, 0, 0], (SPACE, 40, 24, 5), (WHERE, 63))

    def test_refusals(self):
        for k in NOWHERE:
            self.refused(-1, SPACE, k, 1, 5)
        for n in (-1, 0, 65, -HUGE, HUGE):
            self.refused(-3, SPACE, 0, n, 5)
            self.refused(-3, SPACE, 5, n, 5)
        for g in NO_STEPS:
            self.refused(-2, SPACE, 5, 3, g)
            self.refused(-2, SPACE, 5, 1, g)

    def test_the_one_told_first(self):
        self.refused(-1, SPACE, 64, 0, STATES)
        self.refused(-1, SPACE, 64, 0, 5)
        self.refused(-1, SPACE, -1, 3, -1)
        self.refused(-3, SPACE, 5, 0, STATES)
        self.refused(-3, SPACE, 5, 60, -1)
