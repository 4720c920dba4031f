"""answers(calls): how calls and answers stand, and that nothing is changed or kept."""

import contextlib
import io
import sys
import unittest
from fractions import Fraction

from tests.maker import Maker
from tests.model import comb, hits, line, rows, told
from tests.support import HUGE, MOST, ask, flat
from toldchance.bank import answers


class WatchedList(list):
    """A list that fails when anything would change it, for a while too."""

    def fail(self, *_args, **_named):
        raise AssertionError("the list that was handed in is changed")

    append = clear = extend = insert = pop = remove = reverse = sort = fail
    __setitem__ = __delitem__ = __iadd__ = __imul__ = fail


MANY_KINDS = flat([
    (1, 0), (2, 1, 2), (6, 1), (0, 2, 77), (3, 2, 5), (4, 2, 5), (5, 2, 1), (6, 2), (7, 5, 5), (8, 3, 3),
    (9, 4, 2), (6, 4), (10, 60, 3, 0), (6, 62), (11, 0, 7, 7), (12, 0, [0, 0, 3]), (13, 3, 5), (14, 5, 9, 0), (12, 0, []), (1, 64),
])
THEIR_ANSWERS = [
    2, 0, 335903614, 4, 0, 2, 1817669548, 2187888307, 5, 0, 9396908728118811419, 1, 2, 0,
    1, 0, 1, 0, 1, 0, 1, 0, 5, 0, 77, 77, 0, 1, 2, 0, 0, 2, 0, 0,
    1, 0, 5, 0, 77, 77, 0, 1, 1, 0, 5, 0, 60, 60, 0, 0, 2, 0, 7, 2, 0, 2, 7, 0, 5, 0, 2, 4, 3, 1, 2, 0, 0, 1, -6, 1, -1,
]

KINDS_OF_VALUES = flat([
    (15, 3, [10, 20, 30, 40, 50]), (16, 8, 2, [0, 3, 0, 1]), (17, 0, 1, [1, 6], []), (19, 0), (23, 0), (24, 0), (25, 0, 2, 1, 0), (26, 0, 3, 1, 1),
    (20, 0, 0), (21, 0, 0), (22, 0, 1, 2), (27, 1, 0, 0, 1, 2), (19, 1), (28, 1, 0, -1, 2, 1, 3), (20, 1, 4294967295), (18, 0), (19, 0),
    (17, 64, 0, [1, 1], []), (17, 1, 0, [1, 0], []), (20, 1, 4294967296),
])
THEIR_VALUES = [
    7, 0, 5, 10, 30, 50, 40, 20, 4, 0, 2, 3, 1, 1, 0, 10, 0, 1, 1, 6, 1, 1, 1, 1, 1, 6, 3, 0, 1, 4294967296, 9, 0, 7, 2, 35, 12, 1, 1, 6, 1,
    3, 0, 1, 3, 2, 0, 1431655766, 3, 0, 1, 1, 3, 0, 1, 1, 6, 0, 2, 3, 1, 4, 1,
    1, 0, 17, 0, 2, 1, 2, 12, 1, 1, 1, 1, 1, 6, 1, 1, 1, 1, 1, 6, 1, 0, 3, 0, -8, 3, 1, 0, 1, -12, 1, -8, 1, -10, 1, -11,
]

# Lines and combs in turn, whose fractions, teeth and weights are about as large as they may be.
HEAVY = []
for place in range(32):
    HEAVY.append(line(10 ** 38 + place, Fraction(MOST - place, MOST - 1 - 2 * place), Fraction(place - MOST, MOST - 7 * place - 2)))
    HEAVY.append(comb(10 ** 38 - 3 * place, Fraction(place + 1, MOST - 13 * place), Fraction(-MOST, MOST - 11 * place - 3), MOST - place))
DEFINE_HEAVY = (17, 0, 5, *rows(HEAVY))

# 16 times 64 classes are 7248 numbers; the rest are short calls.
FULL = flat([DEFINE_HEAVY] * 16 + [(19, 0)] * 112 + [(26, 0, 1, 3, 0)] * 5 + [(15, 0, [])])


class Answers(unittest.TestCase):
    def test_one_call(self):
        self.assertEqual(answers([1, 0]), [2, 0, 335903614])
        self.assertEqual(answers([5, 0, 1]), [1, 0])
        self.assertEqual(answers([1, 64]), [1, -1])

    def test_calls_of_all_kinds_one_behind_another(self):
        self.assertEqual(answers(MANY_KINDS), THEIR_ANSWERS)

    def test_calls_on_distributions_one_behind_another(self):
        self.assertEqual(answers(KINDS_OF_VALUES), THEIR_VALUES)

    def test_a_list_has_its_length_before_it(self):
        self.assertEqual(answers([2, 0, 0]), [2, 0, 0])
        self.assertEqual(answers([2, 0, 1]), [3, 0, 1, 335903614])
        self.assertEqual(answers([13, 0, 1]), [3, 0, 1, 0])
        self.assertEqual(answers([14, 0, 1, 0]), [2, 0, 0])

    def test_a_number_below_0_behind_a_0(self):
        self.assertEqual(answers([11, 0, -4, -4]), [2, 0, -4])
        self.assertEqual(answers([4, 0, 1, 6, 0]), [1, 0, 5, 0, 11066951453180645397, 0, -1, 0])

    def test_a_refused_call_takes_all_its_numbers(self):
        refused = [(0, -1, 5), (1, -1), (2, -1, 5), (3, -1, 5), (4, -1, 5), (5, -1, 1), (6, -1), (7, -1, 5), (8, -1, 5), (9, -1, 5),
                   (10, -1, 1, 1), (11, -1, 1, 1), (12, -1, [1, 1]), (13, -1, 5), (14, -1, 5, 5)]
        for call in refused:
            number = -2 if call[0] == 7 else -1
            self.assertEqual(answers(flat([call, (1, 0)])), [1, number, 2, 0, 335903614])
        refused = [(17, -1, 0, [1, 0, 1, 0], [1, 0]), (18, -1), (19, -1), (20, -1, 0), (21, -1, 0), (22, -1, 0, 0), (23, -1), (24, -1), (25, -1, 1, 1, 1),
                   (26, -1, 1, 1, 1), (27, -1, 0, 0, 0, 0), (28, -1, 0, 0, 0, 0, 0)]
        for call in refused:
            self.assertEqual(answers(flat([call, (1, 0)])), [1, -8, 2, 0, 335903614])
        for call, number in (((15, -1, [1, 0, 1, 0]), -1), ((16, -1, 1, [1, 0, 1, 0]), -1), ((17, 1, 99, [1, 0, 1, 0], [1, 0]), -10), ((20, 1, -1), -12)):
            self.assertEqual(answers(flat([call, (1, 0)])), [1, number, 2, 0, 335903614])

    def test_a_row_that_looks_like_calls(self):
        self.assertEqual(answers(flat([(12, 64, [1, 0, 1, 0]), (12, 0, [0] * 65), (1, 0)])), [1, -1, 1, -6, 2, 0, 335903614])

    def test_the_largest_numbers(self):
        big = [(0, 0), (2, 0), (3, 0), (4, 0), (5, 0), (7, 5), (8, 0), (9, 0), (13, 0)]
        numbers = {0: -2, 2: -3, 3: -2, 4: -2, 5: -4, 7: -2, 8: -2, 9: -1, 13: -3}
        for place, first in big:
            for wrong in (HUGE, -HUGE):
                self.assertEqual(answers([place, first, wrong]), [1, numbers[place]])
        for wrong in (HUGE, -HUGE):
            self.assertEqual(answers([12, 0, 2, wrong, wrong]), [1, -6])
            self.assertEqual(answers([10, 0, wrong, wrong]), [1, -3])
            self.assertEqual(answers([10, 0, 1, wrong]), [1, -2])
            self.assertEqual(answers([11, 0, wrong, wrong]), [1, -5])
            self.assertEqual(answers([14, 0, 5, wrong]), [1, -7])
            self.assertEqual(answers([15, 0, 2, wrong, wrong]), [1, -5])
            self.assertEqual(answers([16, 0, wrong, 2, 1, 1]), [1, -7])
            self.assertEqual(answers([17, 0, 5, 1, 1, 6] + [wrong] * 6), [1, -10])
            for kind in range(10):
                for many in (2, 3):
                    # A huge number over itself is 1, a right fraction.
                    number = 0 if kind == 0 and many == 2 and wrong > 0 else -10
                    self.assertEqual(answers([17, 0, kind, many] + [wrong] * many + [0]), [1, number])
            for place, numbers in ((18, 0), (19, 0), (20, 1), (21, 1), (22, 2), (23, 0), (24, 0), (25, 3), (26, 3), (27, 4), (28, 5)):
                self.assertEqual(answers([place, wrong] + [wrong] * numbers), [1, -8])

    def test_four_hundred_calls(self):
        self.assertEqual(answers([1, 0] * 400), answers_of_raws(400))
        self.assertEqual(len(answers([13, 0, 1000] * 400)), 400 * 1003)
        self.assertEqual(answers([18, 0] * 400), [1, -12] * 400)
        self.assertEqual(answers([17, 0, 0, 2, 1, 2, 0] + [20, 0, 5] * 399), [1, 0] + [3, 0, 1, 2] * 399)

    def test_the_longest_row(self):
        self.assertEqual(answers([12, 0, 2000] + [1] * 2000 + [1, 0]), [1, -6, 2, 0, 335903614])
        self.assertEqual(answers([15, 0, 2000] + [1] * 2000 + [1, 0]), [1, -3, 2, 0, 335903614])
        self.assertEqual(answers([16, 0, 1, 2000] + [1] * 2000 + [1, 0]), [1, -6, 2, 0, 335903614])
        self.assertEqual(answers([17, 0, 5, 2000] + [1] * 2000 + [2000] + [1] * 2000 + [1, 0]), [1, -10, 2, 0, 335903614])

    def test_7500_numbers(self):
        self.assertEqual(len(FULL), 7500)
        expected = [1, 0] * 16 + ([451] + told(HEAVY)) * 112 + [2, 0, hits(HEAVY, Fraction(1, 3), 0)] * 5 + [2, 0, 0]
        self.assertEqual(answers(FULL), expected)

    def test_the_heaviest_calls_many_times(self):
        # Whoever goes through raw numbers or teeth one by one does not come to an end here.
        for call in ((23, 0), (24, 0), (25, 0, 1, 3, 0), (26, 0, 1, 3, 1), (28, 1, 0, -1, 1, 0, 1)):
            once = ask(DEFINE_HEAVY, call)
            self.assertEqual(ask(DEFINE_HEAVY, *[call] * 60), once[:1] + once[1:] * 60)
        drawn = ask(DEFINE_HEAVY, *[(22, 0, 0, 1000)] * 60)
        self.assertEqual([len(part) for part in drawn], [1] + [2002] * 60)

    def test_what_is_handed_in_is_not_changed(self):
        for calls, expected in ((MANY_KINDS, THEIR_ANSWERS), (KINDS_OF_VALUES, THEIR_VALUES)):
            handed = WatchedList(calls)
            self.assertEqual(answers(handed), expected)
            self.assertEqual(list(handed), calls)
        calls = flat(Maker(1).calls())
        handed = WatchedList(calls)
        answers(handed)
        self.assertEqual(list(handed), calls)

    def test_nothing_is_printed_or_imported(self):
        answers([1, 0])
        modules = set(sys.modules)
        out, err = io.StringIO(), io.StringIO()
        with contextlib.redirect_stdout(out), contextlib.redirect_stderr(err):
            answers(flat(Maker(2).calls()))
        self.assertEqual((out.getvalue(), err.getvalue()), ("", ""))
        self.assertEqual(set(sys.modules), modules)

    def test_nothing_is_kept(self):
        self.assertEqual(answers(MANY_KINDS), answers(MANY_KINDS))
        self.assertEqual(answers(KINDS_OF_VALUES), answers(KINDS_OF_VALUES))
        calls = flat(Maker(3).calls())
        first = answers(calls)
        answers(flat(Maker(4).calls()))
        self.assertEqual(answers(calls), first)
        answers([17, 0, 0, 2, 1, 1, 0])
        self.assertEqual(answers([19, 0]), [1, -12])
        answers([5, 0, 1, 3, 0, 9, 9, 1, 0])
        self.assertEqual(answers([6, 0, 6, 1]), [5, 0, 0, 0, 0, 0, 5, 0, 1, 1, 0, 0])

    def test_the_answers_belong_to_the_one_who_asked(self):
        first = answers(MANY_KINDS)
        first.clear()
        self.assertEqual(answers(MANY_KINDS), THEIR_ANSWERS)


def answers_of_raws(many):
    """What so many raw calls answer, from one raws call."""
    expected = []
    for u in answers([2, 0, many])[3:]:
        expected.extend([2, 0, u])
    return expected
