"""Pairs of any values."""

import unittest

from helpers import NO_NAMES
from nextkind.pairs import Pair
from nextkind.quotas import Both, Cap, Either, Quota
from nextkind.rules import Else, Even, First, Rule


class Pairs(unittest.TestCase):
    def test_parts_are_the_values(self):
        for value in NO_NAMES:
            for pair in (Pair(value, 7), Pair(first=value, second=7), Pair(second=7, first=value)):
                self.assertIs(pair.first, value)
                self.assertEqual(pair.second, 7)
            self.assertIs(Pair(7, value).second, value)

    def test_nested(self):
        inner = Pair(1, 2)
        self.assertIs(Pair(inner, None).first, inner)
        self.assertEqual(Pair(inner, None).first.second, 2)

    def test_parts_are_properties(self):
        self.assertIsInstance(vars(Pair)["first"], property)
        self.assertIsInstance(vars(Pair)["second"], property)

    def test_what_stands_below_it(self):
        for made in (Else, Both, Either):
            self.assertTrue(issubclass(made, Pair))
        self.assertTrue(issubclass(Else, Rule))
        for made in (Cap, Both, Either):
            self.assertTrue(issubclass(made, Quota))
        for made in (First, Even):
            self.assertTrue(issubclass(made, Rule))
            self.assertFalse(issubclass(made, Pair))
        self.assertFalse(issubclass(Cap, Pair))

    def test_parts_of_joints(self):
        one, other = First("a"), Even("b", "c")
        for rule in (Else(one, other), Else(one=one, other=other), one | other):
            self.assertIs(rule.first, one)
            self.assertIs(rule.second, other)
        left, right = Cap(1, "a"), Cap(2, "b")
        for quota in (Both(left, right), Either(left, right), left & right, left | right, Both(second=right, first=left)):
            self.assertIs(quota.first, left)
            self.assertIs(quota.second, right)


if __name__ == "__main__":
    unittest.main()
