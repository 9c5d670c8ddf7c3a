"""Covers: whether each house that serves one book serves another, held against all houses."""

import itertools
import random
import unittest

from helpers import NO_NAMES, NO_OBJECTS, check_error
from nextkind.books import Book
from nextkind.covers import Covering, covers
from nextkind.houses import House
from nextkind.plans import plan
from nextkind.quotas import Cap
from nextkind.reach import reach
from nextkind.rules import First
from oracle import small_book

QUOTA = Cap(2, "small") & Cap(1, "big") & Cap(2, "small", "big")
BOOK = Book(QUOTA, small=First("s", "b"), big=First("b"))
KEPT = BOOK.exchanged("small", First("s", ("b", 1)))


def books(seed, many):
    """Some books of few bays, unlike ones among them."""
    source = random.Random(seed)
    found = []
    while len(found) < many:
        book = small_book(source, kinds="ab", bays=source.choice(["st", "tu", "stu"]), keeps=2)
        tops = [book.enough[bay] + 1 for bay in "stu"]
        if tops[0] * tops[1] * tops[2] < 50:
            found.append(book)
    return found


def serves(book, house, kind):
    refused = reach(book, house).refused
    return not refused if kind is None else kind not in refused


class Covers(unittest.TestCase):
    def test_held_against_all_houses(self):
        seen = set()
        houses = [House(s=s, t=t, u=u) for s, t, u in itertools.product(range(5), repeat=3)]
        for one, other in itertools.product(books(81, 9), repeat=2):
            for kind in (None, "a", "b"):
                if kind is not None and not (kind in one and kind in other):
                    continue
                found = covers(one, other, kind)
                self.assertIsInstance(found, Covering)
                least = plan(other, kind).least_houses
                wrong = [house for house in least if not serves(one, house, kind)]
                self.assertEqual([bool(found), found.house], [not wrong, wrong[0] if wrong else None])
                if found:
                    self.assertEqual([str(house) for house in houses if serves(other, house, kind) and not serves(one, house, kind)], [])
                seen.add((bool(found), kind is None))
        self.assertEqual(len(seen), 4)

    def test_with_a_kind_and_names(self):
        # In b 1 s 1 the kept book keeps the second small one out; and so big always finds its place in b 1.
        self.assertEqual([bool(covers(KEPT, BOOK, "big")), bool(covers(kind="small", other=BOOK, one=KEPT))], [True, False])
        self.assertEqual([covers(KEPT, BOOK, "big").house, covers(KEPT, BOOK, "small").house, covers(KEPT, BOOK, None).house],
                         [None, House(b=1, s=1), House(b=2)])
        self.assertEqual([plan(KEPT, "big").least, covers(BOOK, KEPT, "big").house], [((1, 0),), House(b=1)])

    def test_bays_that_one_lacks(self):
        one, other = Book(Cap(1, "a"), a=First("s")), Book(Cap(1, "a"), a=First("t"))
        both = Book(Cap(1, "a"), a=First("s", "t"))
        self.assertEqual([covers(one, other).house, covers(other, one).house, covers(one, both).house, covers(both, one).house],
                         [House(t=1), House(s=1), House(t=1), None])

    def test_of_nothing(self):
        never, always = Book(Cap(1, "a"), a=First()), Book(Cap(0, "a"), a=First())
        some = Book(Cap(1, "a"), a=First("s"))
        self.assertEqual([bool(covers(some, never)), bool(covers(never, some)), bool(covers(never, never)), bool(covers(always, some))],
                         [True, False, True, True])
        self.assertEqual([covers(some, always).house, covers(never, some).house, covers(some, Book(Cap(0))).house],
                         [House(), House(s=1), House()])

    def test_no_kind(self):
        for value in [value for value in NO_NAMES + NO_OBJECTS if value is not None] + ["tiny", "s", BOOK, House()]:
            check_error(self, ("NoKind", ("kind", value)), covers, BOOK, KEPT, value)
        less = BOOK.without("small")
        for one, other in ((less, BOOK), (BOOK, less)):
            check_error(self, ("NoKind", ("kind", "small")), covers, one, other, "small")
            self.assertIsNotNone(covers(one, other, "big"))
        wide = Book(Cap(12, "a") & Cap(12, "b"), a=First("s", "t"), b=First("u", "v"))
        check_error(self, ("NoKind", ("kind", "small")), covers, wide, BOOK, "small")
        check_error(self, ("NoKind", ("kind", "a")), covers, wide, BOOK, "a")

    def test_too_many_for_one_first(self):
        houses = Book(Cap(4, "a") & Cap(4, "b") & Cap(10, "c"), a=First("s"), b=First("t"), c=First("u"))
        standings = Book(Cap(5, *"abcde"), **{kind: First("s", "t") for kind in "abcde"})
        first, second = ("TooMany", ("what", "houses"), ("most", 250)), ("TooMany", ("what", "standings"), ("most", 400))
        for kind in (None, "a"):
            check_error(self, first, covers, houses, standings, kind)
            check_error(self, second, covers, standings, houses, kind)
        check_error(self, first, covers, BOOK, houses)
        check_error(self, second, covers, standings, BOOK)


if __name__ == "__main__":
    unittest.main()
