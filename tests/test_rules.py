"""Rules: made, asked, joined, parted, written and read."""

import itertools
import random
import re
import unittest

from helpers import (GREAT, NAMES, NO_NAMES, NO_OBJECTS, bad_text, changed_texts, check_error, check_texts, error_of,
                     longest)
from nextkind.errors import TooMany
from nextkind.houses import House
from nextkind.rules import Else, Even, First, Rule, parting

ABC = "abcdefghijklmnopqrstuvwxyz"
NO_KEEPS = [None, True, False, -1, 10, 10 ** 60, 10 ** 79, "", "1", (1,), [1], (), {}, House(a=1)]
PICKS = [(bay, keep) for bay in "ab" for keep in range(3)]


def one_form(picks):
    """The one form by the words of the document: first all picks are marked that fall, then those of what is left."""
    left = [pick for at, pick in enumerate(picks)
            if not any(bay == pick[0] and keep <= pick[1] for bay, keep in picks[:at])]
    return tuple(pick for at, pick in enumerate(left) if not (at + 1 < len(left) and left[at + 1][0] == pick[0]))


def chosen(picks, free):
    """The bay of the first open pick."""
    return next((bay for bay, keep in picks if free[bay] > keep), None)


def short_rows(most):
    """All lists of picks of two bays with keeps up to 2, up to a length."""
    return [row for many in range(most + 1) for row in itertools.product(PICKS, repeat=many)]


class Made(unittest.TestCase):
    def test_picks_in_one_form(self):
        self.assertEqual(First(("s", 1), ("n", 3), ("s", 2), ("n", 1)).picks, (("s", 1), ("n", 1)))
        self.assertEqual(First("s", "s").picks, (("s", 0),))
        self.assertEqual(First(("s", 3), ("s", 1), "n").picks, (("s", 1), ("n", 0)))
        self.assertEqual(First(("s", 3), "n", ("s", 1)).picks, (("s", 3), ("n", 0), ("s", 1)))
        self.assertEqual(First(("s", 3), ("n", 1), ("s", 3), "n").picks, (("s", 3), ("n", 0)))
        self.assertEqual(First().picks, ())

    def test_one_form_of_short_rows(self):
        for row in short_rows(4):
            self.assertEqual(First(*row).picks, one_form(row))

    def test_one_form_of_long_rows(self):
        source = random.Random(4)
        for _ in range(300):
            row = [(source.choice("abc"), source.randrange(10)) for _ in range(source.randrange(40))]
            self.assertEqual(First.of(row).picks if len(one_form(row)) <= 15 else None,
                             one_form(row) if len(one_form(row)) <= 15 else None)

    def test_names_and_tuples(self):
        for name in NAMES:
            self.assertEqual(First(name).picks, ((name, 0),))
            for keep in range(10):
                self.assertEqual(First((name, keep)).picks, ((name, keep),))

    def test_of(self):
        for picks in (["s", ("n", 2)], ("s", ("n", 2))):
            self.assertEqual(First.of(picks).picks, (("s", 0), ("n", 2)))
        self.assertEqual(First.of(picks=[]).picks, ())
        check_error(self, ("BadPick", ("at", 1)), First.of, ["a", ["b", 1]])
        check_error(self, ("TooMany", ("what", "picks"), ("most", 15)), First.of, list(ABC[:16]))

    def test_later_changes_mean_nothing(self):
        picks = ["s", ("n", 2)]
        rule = First.of(picks)
        picks.append("m")
        picks[0] = "x"
        self.assertEqual(rule.picks, (("s", 0), ("n", 2)))

    def test_bad_picks(self):
        bad = [value for value in NO_NAMES]
        bad += [("a", keep) for keep in NO_KEEPS] + [(name, 1) for name in NO_NAMES]
        bad += [["a", 1], ("a", 1, 1), ("a",), (1, "a"), (("a", 1),), First("a"), ("a", 1, None)]
        for value in bad:
            check_error(self, ("BadPick", ("at", 0)), First, value)
            check_error(self, ("BadPick", ("at", 2)), First, "a", ("b", 1), value, "A")
        check_error(self, ("BadPick", ("at", 1)), First, "a", 1, ["b"])

    def test_fifteen_picks_and_more(self):
        many = ("TooMany", ("what", "picks"), ("most", 15))
        self.assertEqual(len(First(*ABC[:15])), 15)
        check_error(self, many, First, *ABC[:16])
        self.assertEqual(First(*ABC[:15], *ABC[:15], ("a", 9)).picks, First(*ABC[:15]).picks)
        falling = [("a", keep) for keep in range(9, -1, -1)]
        self.assertEqual(First(*falling, *ABC[1:15]).picks, First(*ABC[:15]).picks)
        check_error(self, many, First, *falling, *ABC[1:16])
        self.assertEqual(len(First(*["a"] * 2000)), 1)

    def test_bad_pick_ahead_of_too_many(self):
        check_error(self, ("BadPick", ("at", 20)), First, *ABC[:20], None, 3)


class Evens(unittest.TestCase):
    def test_picks(self):
        self.assertEqual(Even("a", "b").picks,
                         (("a", 2), ("b", 2), ("a", 1), ("b", 1), ("a", 0), ("b", 0)))
        self.assertEqual(Even("a", "b", most=1).picks, (("a", 0), ("b", 0)))
        self.assertEqual(Even("a").picks, (("a", 0),))
        self.assertEqual(Even().picks, ())
        self.assertEqual(Even("b", "a", most=2).picks, (("b", 1), ("a", 1), ("b", 0), ("a", 0)))
        self.assertEqual(Even("self", most=9).bays, ("self",))

    def test_what_it_chooses(self):
        for bays in ("a", "ab", "ba", "bca"):
            for most in (1, 2, 3, 5):
                rule = Even(*bays, most=most)
                for free in itertools.product(range(6), repeat=len(bays)):
                    counted = [min(number, most) for number in free]
                    best = max(counted)
                    told = bays[counted.index(best)] if best > 0 else None
                    self.assertEqual(rule(House(**dict(zip(bays, free)))), told)

    def test_errors_and_their_order(self):
        for value in NO_NAMES:
            check_error(self, ("BadPick", ("at", 0)), Even, value, most=None)
            check_error(self, ("BadPick", ("at", 1)), Even, "a", value, value)
        check_error(self, ("BadPick", ("at", 2)), Even, "a", "b", "a", 3)
        check_error(self, ("BadPick", ("at", 0)), Even, ("a", 1))
        for value in NO_KEEPS + [0, 11]:
            check_error(self, ("BadNumber", ("value", value)), Even, "a", "b", most=value)
            check_error(self, ("BadNumber", ("value", value)), Even, *ABC[:20], most=value)
            check_error(self, ("BadNumber", ("value", value)), Even, most=value)
        check_error(self, ("BadPick", ("at", 20)), Even, *ABC[:20], "a", most=None)

    def test_too_many(self):
        many = ("TooMany", ("what", "picks"), ("most", 15))
        self.assertEqual(len(Even(*"abcde")), 15)
        check_error(self, many, Even, *"abcdef")
        self.assertEqual(len(Even(*ABC[:15], most=1)), 15)
        check_error(self, many, Even, *ABC[:16], most=1)
        check_error(self, many, Even, *ABC[:8], most=2)
        self.assertEqual(len(Even("a", most=9)), 1)
        check_error(self, many, Even, "a", "b", most=8)


class Elses(unittest.TestCase):
    def test_chooses_as_one_and_then_as_other(self):
        source = random.Random(5)
        for _ in range(200):
            rows = [[source.choice(PICKS) for _ in range(source.randrange(5))] for _ in range(2)]
            one, other = First(*rows[0]), First(*rows[1])
            for rule in (one | other, Else(one, other), Else(other=other, one=one)):
                self.assertIsInstance(rule, Else)
                self.assertEqual(rule.picks, one_form(rows[0] + rows[1]))
                for a, b in itertools.product(range(4), repeat=2):
                    free = House(a=a, b=b)
                    told = one(free)
                    self.assertEqual(rule(free), other(free) if told is None else told)

    def test_errors(self):
        for value in NO_OBJECTS + NO_NAMES:
            if not isinstance(value, Rule):
                check_error(self, ("BadRule", ("kind", None)), Else, First("a"), value)
                check_error(self, ("BadRule", ("kind", None)), Else, value, First("a"))
                check_error(self, ("BadRule", ("kind", None)), lambda: First("a") | value)
        many = ("TooMany", ("what", "picks"), ("most", 15))
        check_error(self, many, Else, First(*ABC[:8]), First(*ABC[8:16]))
        check_error(self, many, lambda: First(*ABC[:15]) | First("z"))
        self.assertEqual(len(First(*ABC[:15]) | First(*ABC[:15])), 15)
        self.assertEqual(len(First(*ABC[:8]) | First(*ABC[7:15])), 15)


class Asked(unittest.TestCase):
    def test_bays_len_iteration(self):
        rule = First(("s", 2), "n", "s", ("b", 9))
        self.assertEqual(rule.bays, ("b", "n", "s"))
        self.assertEqual(len(rule), 4)
        self.assertEqual(list(rule), [("s", 2), ("n", 0), ("s", 0), ("b", 9)])
        self.assertEqual(len([1 for one in rule for other in rule]), 16)
        self.assertEqual((First().bays, len(First()), list(First())), ((), 0, []))
        self.assertEqual(First("a", ("a", 3)).bays, ("a",))

    def test_in(self):
        rule = First("s", ("n", 3))
        self.assertIs("s" in rule, True)
        self.assertIs("n" in rule, True)
        self.assertIs("m" in rule, False)
        for value in NO_NAMES + [("s", 0), ("n", 3)]:
            self.assertIs(value in rule, False)

    def test_keep(self):
        rule = First(("s", 2), "n", "s", ("b", 9))
        self.assertEqual([rule.keep("s"), rule.keep("n"), rule.keep("b"), rule.keep(bay="m")], [2, 0, 9, None])
        for value in NO_NAMES:
            self.assertIsNone(rule.keep(value))
        # A keep that the one form does not have means nothing.
        self.assertEqual(First(("s", 5), ("s", 2)).keep("s"), 2)
        self.assertEqual(First("s", ("s", 5)).keep("s"), 0)

    def test_call(self):
        for row in short_rows(3):
            rule = First(*row)
            for a, b in itertools.product(range(4), repeat=2):
                self.assertEqual(rule(House(a=a, b=b)), chosen(row, {"a": a, "b": b}))
        self.assertEqual(First(("a", 9))(free=House(a=GREAT)), "a")
        self.assertIsNone(First(("a", 9))(House(a=9, b=GREAT)))
        self.assertIsNone(First()(House(a=1)))

    def test_equal_just_if_alike(self):
        """Fact: the one forms are equal exactly if the rules choose alike at all free numbers."""
        free = [House(a=a, b=b) for a, b in itertools.product(range(4), repeat=2)]
        rows = {}
        for row in short_rows(4):
            rule = First(*row)
            told = tuple(rule(house) for house in free)
            self.assertEqual(rows.setdefault(told, rule), rule)
        rules = list(rows.values())
        self.assertEqual(len({rule.picks for rule in rules}), len(rules))

    def test_equal_whatever_the_class(self):
        self.assertTrue(Even("a", "b", most=1) == First("a", "b") == First("a") | First("b"))
        self.assertFalse(Even("a", "b", most=1) != First("a", "b"))
        self.assertFalse(First("a", "b") == First("b", "a"))
        self.assertTrue(First("a") != First(("a", 1)))
        for value in NO_OBJECTS + [(("a", 0),), "a", House(a=1)]:
            self.assertIs(First("a") == value, False)
            self.assertIs(First("a") != value, True)
            self.assertIs(First() == value, False)

    def test_plus(self):
        rule = First("s", ("n", 3), ("b", 1))
        for k in range(7):
            self.assertEqual((rule + k).picks, (("s", k), ("n", 3 + k), ("b", 1 + k)))
        many = ("TooMany", ("what", "keep"), ("most", 9))
        for k in (7, 8, 9):
            check_error(self, many, lambda: rule + k)
        self.assertEqual((First("a") + 9).picks, (("a", 9),))
        self.assertEqual((First() + 9).picks, ())
        for value in NO_KEEPS + NO_NAMES:
            if not (isinstance(value, int) and not isinstance(value, bool) and 0 <= value <= 9):
                check_error(self, ("BadNumber", ("value", value)), lambda: rule + value)
                check_error(self, ("BadNumber", ("value", value)), lambda: First(("a", 9)) + value)
        self.assertEqual(rule.picks, (("s", 0), ("n", 3), ("b", 1)))

    def test_minus(self):
        rule = First(("s", 3), "n", ("s", 1), "b")
        self.assertEqual((rule - "s").picks, (("n", 0), ("b", 0)))
        self.assertEqual((rule - "n").picks, (("s", 1), ("b", 0)))
        self.assertEqual((rule - "zz").picks, rule.picks)
        self.assertEqual((First("a") - "a").picks, ())
        for value in NO_NAMES:
            check_error(self, ("BadName", ("value", value)), lambda: rule - value)


class Parting(unittest.TestCase):
    def least(self, one, other, bays, top):
        """The house at which two rules part, looked for among all houses with at most top places in a bay."""
        rows = [row for row in itertools.product(range(top + 1), repeat=len(bays))
                if one(House(**dict(zip(bays, row)))) != other(House(**dict(zip(bays, row))))]
        return House(**dict(zip(bays, min(rows, key=lambda row: (sum(row), row))))) if rows else None

    def test_short_rules(self):
        rules = [First(*row) for row in short_rows(2)]
        for one, other in itertools.product(rules, repeat=2):
            bays = sorted(set(one.bays + other.bays))
            found = parting(one, other)
            self.assertEqual(found, self.least(one, other, bays, 3))
            self.assertEqual(found is None, one == other)

    def test_longer_rules(self):
        source = random.Random(6)
        for _ in range(150):
            rows = [[(source.choice("abc"), source.randrange(3)) for _ in range(source.randrange(6))] for _ in range(2)]
            if source.random() < 0.5:
                rows[1] = rows[0][:-1] + rows[1][:1]
            one, other = First(*rows[0]), First(*rows[1])
            bays = sorted(set(one.bays + other.bays))
            self.assertEqual(parting(one=one, other=other), self.least(one, other, bays, 3))

    def test_great_keeps(self):
        self.assertEqual(parting(First(("a", 9)), First()), House(a=10))
        self.assertEqual(parting(First(("a", 9), "b"), First("b", ("a", 9))), House(a=10, b=1))
        self.assertEqual(parting(First(("a", 9), "b"), First("b")), House(a=10))
        self.assertEqual(parting(First("a", ("b", 9)), First("a")), House(b=10))
        self.assertIsNone(parting(First(*ABC[:15]), Even(*ABC[:15], most=1)))
        self.assertEqual(parting(First(*ABC[:15]), First(*ABC[:14])), House(o=1))
        self.assertEqual(parting(First(*ABC[:15]), First(*ABC[14::-1])), House(n=1, o=1))

    def test_least_tuple(self):
        # Of houses with as many places, the one with its places in the last bays.
        self.assertEqual(parting(First("a", "b"), First()), House(b=1))
        self.assertEqual(parting(First("c", "b", "a"), First()), House(c=1))
        self.assertEqual(parting(First("b", "a"), First("a", "b")), House(a=1, b=1))
        self.assertEqual(parting(First(), First()), None)


PICK = "[a-z]{1,8}( keep [1-9])?"
RULE_TEXT = re.compile(f"-|{PICK}( or {PICK})*", re.ASCII)


def is_rule_text(words):
    return RULE_TEXT.fullmatch(" ".join(words)) is not None


def rule_wrong(words):
    """The first word that cannot stand in the text of a rule, None if there is none."""
    if is_rule_text(words):
        return None
    return longest(words, lambda some: some == [] or any(is_rule_text(some + end) for end in ([], ["a"], ["1"])))


class Texts(unittest.TestCase):
    def test_written(self):
        self.assertEqual(str(First("s", ("n", 2), "b")), "s or n keep 2 or b")
        self.assertEqual(str(First()), "-")
        self.assertEqual(str(Even("a", "b", most=2)), "a keep 1 or b keep 1 or a or b")
        self.assertEqual(str(First("a") | First(("keep", 3))), "a or keep keep 3")

    def test_read_back(self):
        rules = [First(*row) for row in short_rows(3)] + [First(*ABC[:15]), Even(*"abcde"), First("a") | First("b")]
        rules += [First(*NAMES), First(("or", 1), "keep", ("or", 0)), First(*[(name, 9) for name in NAMES])]
        for rule in rules:
            for read in (Rule.read, First.read, Even.read, Else.read):
                self.assertEqual(read(str(rule)), rule)
        self.assertEqual(Rule.read(text="a"), First("a"))

    def test_any_picks_are_read(self):
        self.assertEqual(Rule.read("s keep 1 or n keep 3 or s keep 2 or n keep 1").picks, (("s", 1), ("n", 1)))
        self.assertEqual(Rule.read("s or s or s").picks, (("s", 0),))
        self.assertEqual(Rule.read("or or or or or").picks, (("or", 0),))
        self.assertEqual(Rule.read("keep keep 1 or keep").picks, (("keep", 0),))
        self.assertEqual(Rule.read(" or ".join("a" for _ in range(4000))).picks, (("a", 0),))

    def test_too_many(self):
        many = ("TooMany", ("what", "picks"), ("most", 15))
        self.assertEqual(len(Rule.read(" or ".join(ABC[:15]))), 15)
        check_error(self, many, Rule.read, " or ".join(ABC[:16]))
        check_error(self, bad_text(32), Rule.read, " or ".join(ABC[:16]) + " or")
        check_error(self, bad_text(31), Rule.read, " or ".join(ABC[:16]) + " a")

    def test_no_strings(self):
        for value in NO_OBJECTS + [First("a")]:
            if not isinstance(value, str):
                for read in (Rule.read, First.read, Even.read, Else.read):
                    check_error(self, bad_text(0), read, value)

    def test_words_that_cannot_stand(self):
        rows = [("", 0), ("- ", 1), ("- or s", 1), ("- -", 1), ("-\n", 0), ("s or -", 2), ("s or", 2), ("s keep", 2),
                ("s keep 0", 2), ("s keep 10", 2), ("s keep 01", 2), ("s keep +1", 2), ("s keep 1 keep 2", 3),
                ("s n", 1), ("s keep 1 n", 3), ("s or  n", 2), ("s or n ", 3), (" s", 0), ("S", 0), ("s or N", 2),
                ("s\nor n", 0), ("s or n\n", 2), ("keep 1", 1), ("or n", 1), ("s or or n", 3), ("s keep keep", 2),
                ("abcdefghi", 0), ("s keep 1 or", 4), ("s -", 1), ("s keep \u0661", 2)]
        for text, at in rows:
            check_error(self, bad_text(at), Rule.read, text)

    def test_changed_texts(self):
        source = random.Random(61)
        spare = ["or", "keep", "-", "a", "none", "abcdefghi", "0", "1", "9", "10", "07", "-3", "", "x\n", "A", "cap"]

        def read(text):
            rule = Rule.read(text)
            self.assertEqual(Rule.read(str(rule)), rule)
            return Written(text)

        for text in ("-", "s", "s or n keep 2", "keep keep 3 or or keep 1 or keep", "a keep 9 or b or a keep 2"):
            check_texts(self, read, rule_wrong, changed_texts(source, text, spare))

    def test_read_as_written(self):
        for text in ("-", "s", "s or n keep 2", "keep keep 3 or or keep 1", "a keep 9 or b or a keep 2"):
            self.assertEqual(str(Rule.read(text)), text)


class Written:
    """A text that was read; the reader takes picks that no one form has, so it need not be written back alike."""

    def __init__(self, text):
        self.text = text

    def __str__(self):
        return self.text


class Unchanged(unittest.TestCase):
    def test_errors_change_nothing(self):
        rule = First("a", ("b", 3))
        for call in (lambda: rule + 9, lambda: rule - "A", lambda: rule | None):
            self.assertIsNotNone(error_of(call))
            self.assertEqual(rule.picks, (("a", 0), ("b", 3)))
        self.assertRaises(TooMany, lambda: rule + 7)


if __name__ == "__main__":
    unittest.main()
