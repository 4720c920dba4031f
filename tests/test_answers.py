"""answers(calls): how calls and answers stand, and that nothing is changed or kept."""

import unittest

from tests.support import HUGE, flat
from toldchance.bank import answers


class WatchedList(list):
    """A list that fails when anything would change it, for a while too."""

    def fail(self, *_args, **_named):
        raise AssertionError("the list that was handed in is changed")

    append = clear = extend = insert = pop = remove = reverse = sort = fail
    __setitem__ = __delitem__ = __iadd__ = __imul__ = fail


MANY_KINDS = flat([
    (1, 0), (2, 1, 2), (6, 1), (0, 2, 77), (3, 2, 5), (4, 2, 5), (5, 2, 1), (6, 2), (7, 5, 5), (8, 3, 3),
    (9, 4, 2), (6, 4), (10, 60, 3, 0), (6, 62), (11, 0, 7, 7), (12, 0, [0, 0, 3]), (13, 3, 5), (14, 5, 9, 0), (12, 0, []), (1, 64),
])
THEIR_ANSWERS = [
    2, 0, 335903614, 4, 0, 2, 1817669548, 2187888307, 5, 0, 9396908728118811419, 1, 2, 0,
    1, 0, 1, 0, 1, 0, 1, 0, 5, 0, 77, 77, 0, 1, 2, 0, 0, 2, 0, 0,
    1, 0, 5, 0, 77, 77, 0, 1, 1, 0, 5, 0, 60, 60, 0, 0, 2, 0, 7, 2, 0, 2, 7, 0, 5, 0, 2, 4, 3, 1, 2, 0, 0, 1, -6, 1, -1,
]


class Answers(unittest.TestCase):
    def test_one_call(self):
        self.assertEqual(answers([1, 0]), [2, 0, 335903614])
        self.assertEqual(answers([5, 0, 1]), [1, 0])
        self.assertEqual(answers([1, 64]), [1, -1])

    def test_calls_of_all_kinds_one_behind_another(self):
        self.assertEqual(answers(MANY_KINDS), THEIR_ANSWERS)

    def test_a_list_has_its_length_before_it(self):
        self.assertEqual(answers([2, 0, 0]), [2, 0, 0])
        self.assertEqual(answers([2, 0, 1]), [3, 0, 1, 335903614])
        self.assertEqual(answers([13, 0, 1]), [3, 0, 1, 0])
        self.assertEqual(answers([14, 0, 1, 0]), [2, 0, 0])

    def test_a_number_below_0_behind_a_0(self):
        self.assertEqual(answers([11, 0, -4, -4]), [2, 0, -4])
        self.assertEqual(answers([4, 0, 1, 6, 0]), [1, 0, 5, 0, 11066951453180645397, 0, -1, 0])

    def test_a_refused_call_takes_all_its_numbers(self):
        refused = [(0, -1, 5), (1, -1), (2, -1, 5), (3, -1, 5), (4, -1, 5), (5, -1, 1), (6, -1), (7, -1, 5), (8, -1, 5), (9, -1, 5),
                   (10, -1, 1, 1), (11, -1, 1, 1), (12, -1, [1, 1]), (13, -1, 5), (14, -1, 5, 5)]
        for call in refused:
            number = -2 if call[0] == 7 else -1
            self.assertEqual(answers(flat([call, (1, 0)])), [1, number, 2, 0, 335903614])

    def test_a_row_that_looks_like_calls(self):
        self.assertEqual(answers(flat([(12, 64, [1, 0, 1, 0]), (12, 0, [0] * 65), (1, 0)])), [1, -1, 1, -6, 2, 0, 335903614])

    def test_the_largest_numbers(self):
        big = [(0, 0), (2, 0), (3, 0), (4, 0), (5, 0), (7, 5), (8, 0), (9, 0), (13, 0)]
        numbers = {0: -2, 2: -3, 3: -2, 4: -2, 5: -4, 7: -2, 8: -2, 9: -1, 13: -3}
        for place, first in big:
            for wrong in (HUGE, -HUGE):
                self.assertEqual(answers([place, first, wrong]), [1, numbers[place]])
        for wrong in (HUGE, -HUGE):
            self.assertEqual(answers([12, 0, 2, wrong, wrong]), [1, -6])
            self.assertEqual(answers([10, 0, wrong, wrong]), [1, -3])
            self.assertEqual(answers([10, 0, 1, wrong]), [1, -2])
            self.assertEqual(answers([11, 0, wrong, wrong]), [1, -5])
            self.assertEqual(answers([14, 0, 5, wrong]), [1, -7])

    def test_four_hundred_calls(self):
        self.assertEqual(answers([1, 0] * 400), answers_of_raws(400))
        self.assertEqual(len(answers([13, 0, 1000] * 400)), 400 * 1003)

    def test_the_longest_row(self):
        self.assertEqual(answers([12, 0, 2000] + [1] * 2000 + [1, 0]), [1, -6, 2, 0, 335903614])

    def test_what_is_handed_in_is_not_changed(self):
        handed = WatchedList(MANY_KINDS)
        self.assertEqual(answers(handed), THEIR_ANSWERS)
        self.assertEqual(list(handed), MANY_KINDS)

    def test_nothing_is_kept(self):
        self.assertEqual(answers(MANY_KINDS), answers(MANY_KINDS))
        answers([5, 0, 1, 3, 0, 9, 9, 1, 0])
        self.assertEqual(answers([6, 0, 6, 1]), [5, 0, 0, 0, 0, 0, 5, 0, 1, 1, 0, 0])

    def test_the_answers_belong_to_the_one_who_asked(self):
        first = answers(MANY_KINDS)
        first.clear()
        self.assertEqual(answers(MANY_KINDS), THEIR_ANSWERS)


def answers_of_raws(many):
    """What so many raw calls answer, from one raws call."""
    expected = []
    for u in answers([2, 0, many])[3:]:
        expected.extend([2, 0, u])
    return expected
