"""Long lists of calls of all kinds, held against the document's words call by call."""

import unittest

from tests.maker import Maker
from tests.reference import Reference
from tests.support import ask


class Whole(unittest.TestCase):
    def held(self, calls):
        reference = Reference()
        found = {}
        for call, part in zip(calls, ask(*calls)):
            self.assertEqual(part, reference.answer(call), call)
            found.setdefault(call[0], set()).add(part[0])
        return found

    def test_long_lists_of_calls_of_all_kinds(self):
        answered = {place: set() for place in range(29)}
        for seed in range(12):
            calls = Maker(seed).calls()
            self.assertGreater(len(calls), 250)
            for place, found in self.held(calls).items():
                answered[place] |= found
        for place, found in answered.items():
            self.assertIn(0, found, place)
        self.assertLessEqual({-1, -2, -3, -4, -5, -6, -7, -8, -10, -11, -12}, set().union(*answered.values()))
