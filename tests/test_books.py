"""Books: made, asked, changed, and what a coming does."""

import itertools
import random
import unittest

from helpers import GREAT, NAMES, NO_NAMES, NO_OBJECTS, check_error
from nextkind.books import Book
from nextkind.houses import House
from nextkind.quotas import Cap, Quota
from nextkind.rules import Even, First, Rule
from nextkind.standings import Standing

ABC = "abcdefghijklmnopqrstuvwxyz"
BOTH = Cap(2, "small") & Cap(1, "big")
BOOK = Book(BOTH, small=First("s", "b"), big=First("b"))


class Made(unittest.TestCase):
    def test_by_keywords_and_by_of(self):
        small, big = First("s", "b"), First("b")
        for book in (Book(BOTH, small=small, big=big), Book(quota=BOTH, big=big, small=small),
                     Book.of(BOTH, {"small": small, "big": big}), Book.of(quota=BOTH, table={"big": big, "small": small})):
            self.assertEqual(book, BOOK)
            self.assertIs(book.quota, BOTH)
            self.assertEqual([book.kinds, book.bays], [("big", "small"), ("b", "s")])
            self.assertIs(book["small"], small)

    def test_kinds_of_any_name(self):
        quota = Cap(1, *NAMES)
        for name in NAMES:
            book = Book.of(quota, {name: First("s")})
            self.assertEqual((book.kinds, book.pairs, book[name]), ((name,), ((name, "s"),), First("s")))
        book = Book.of(Cap(1, "self", "quota"), {"self": First("self"), "quota": First("quota")})
        self.assertEqual(book.pairs, (("quota", "quota"), ("self", "self")))

    def test_without_kinds(self):
        book = Book(Cap(0))
        self.assertEqual([book.kinds, book.bays, book.pairs, book.enough, len(book), list(book), book.at_once()],
                         [(), (), (), House(), 0, [], 0])
        self.assertEqual(Book.of(Cap(0), {}), book)

    def test_rules_without_picks(self):
        book = Book(BOTH, small=First(), big=First())
        self.assertEqual([book.kinds, book.bays, book.pairs, book.enough], [("big", "small"), (), (), House()])

    def test_quota_names_other_kinds(self):
        quota = Cap(1, "a", "x") | Cap(0, "a", "b")
        book = Book(quota, a=First("s"))
        self.assertEqual([book.kinds, book.at_once("a"), book.enough], [("a",), 1, House(s=1)])

    def test_later_changes_mean_nothing(self):
        table = {"small": First("s")}
        book = Book.of(BOTH, table)
        table["small"] = First("t")
        table["big"] = First("b")
        self.assertEqual(book, Book(BOTH, small=First("s")))

    def test_no_quota(self):
        told = ("BadQuota", ("part", "quota"))
        for value in NO_OBJECTS + NO_NAMES + [First("a")]:
            if isinstance(value, Quota):
                continue
            check_error(self, told, Book, value)
            check_error(self, told, Book, value, A=1, b=None)
            check_error(self, told, Book.of, value, None)
            check_error(self, told, Book.of, value, {"A": 1})
            check_error(self, told, BOOK.under, value)

    def test_no_table(self):
        for value in NO_OBJECTS + [House(a=1), First("a"), BOOK]:
            if not isinstance(value, dict):
                check_error(self, ("BadTable", ("value", value)), Book.of, Cap(0), value)

    def test_no_names(self):
        for value in NO_NAMES:
            if value.__hash__ is not None:
                check_error(self, ("BadName", ("value", value)), Book.of, Cap(0), {"a": 1, value: 2, "A": 3})
            if isinstance(value, str):
                check_error(self, ("BadName", ("value", value)), Book, Cap(0), **{"a": 1, value: 2, "A": 3})
            check_error(self, ("BadName", ("value", value)), BOOK.exchanged, value, None)

    def test_no_rules(self):
        for value in NO_OBJECTS + NO_NAMES:
            if isinstance(value, Rule):
                continue
            check_error(self, ("BadRule", ("kind", "b")), Book.of, Cap(0), {"z": None, "b": value, "a": First()})
            check_error(self, ("BadRule", ("kind", "b")), Book, Cap(0), z=None, b=value, a=First())
            check_error(self, ("BadRule", ("kind", "b")), BOOK.exchanged, "b", value)
            check_error(self, ("BadRule", ("kind", "small")), BOOK.exchanged, "small", value)

    def test_errors_and_their_order(self):
        six = {name: First(name) for name in "abcdef"}
        check_error(self, ("BadRule", ("kind", "g")), Book.of, Cap(0), {"g": 1, **six})
        check_error(self, ("BadName", ("value", "G")), Book.of, Cap(0), {"g": 1, **six, "G": 1})
        check_error(self, ("TooMany", ("what", "kinds"), ("most", 5)), Book.of, Cap(0), six)
        del six["f"]
        five = {**six, "a": First("a", "f")}
        check_error(self, ("TooMany", ("what", "bays"), ("most", 5)), Book.of, Cap(0), five)
        check_error(self, ("Unlimited", ("kind", "a")), Book.of, Cap(0), six)
        check_error(self, ("Unlimited", ("kind", "c")), Book.of, Cap(12, "a", "b", "d"), six)
        check_error(self, ("Unlimited", ("kind", "e")), Book.of, Cap(12, "a", "b", "c", "d"), six)
        check_error(self, ("TooMany", ("what", "counts"), ("most", 500)), Book.of, Cap(12, *"abcde"), six)
        self.assertEqual(Book.of(Cap(1, *"abcde"), six).kinds, tuple("abcde"))

    def test_five_hundred_counts(self):
        rules = {name: First("s") for name in "abc"}
        self.assertEqual(len(Book.of(Cap(4, "a") & Cap(9, "b") & Cap(9, "c"), rules)), 3)
        many = ("TooMany", ("what", "counts"), ("most", 500))
        check_error(self, many, Book.of, Cap(4, "a") & Cap(9, "b") & Cap(10, "c"), rules)
        # What it lets of kinds that are not of the book does not count.
        self.assertEqual(len(Book.of(Cap(12, "a") & Cap(12, "x") & Cap(12, "y"), {"a": First("s")})), 1)

    def test_five_bays(self):
        book = Book(Cap(1, "a", "b"), a=First("s", "t", "u"), b=First("u", "v", "w"))
        self.assertEqual(book.bays, ("s", "t", "u", "v", "w"))
        check_error(self, ("TooMany", ("what", "bays"), ("most", 5)), book.exchanged, "a", First("s", "t", "x"))


class Asked(unittest.TestCase):
    def test_index_and_in(self):
        self.assertEqual(BOOK["big"], First("b"))
        self.assertIs("big" in BOOK, True)
        self.assertIs("tiny" in BOOK, False)
        check_error(self, ("NoKind", ("kind", "tiny")), BOOK.__getitem__, "tiny")
        for value in NO_NAMES:
            self.assertIs(value in BOOK, False)
            check_error(self, ("NoKind", ("kind", value)), BOOK.__getitem__, value)

    def test_len_and_iteration(self):
        self.assertEqual([len(BOOK), list(BOOK)], [2, ["big", "small"]])
        self.assertEqual(len([1 for one in BOOK for other in BOOK]), 4)

    def test_pairs(self):
        book = Book(Cap(1, "a", "b"), b=First("t", "s", ("s", 3)), a=Even("u", "s"))
        self.assertEqual(book.pairs, (("a", "s"), ("a", "u"), ("b", "s"), ("b", "t")))
        self.assertEqual(book.bays, ("s", "t", "u"))

    def test_at_once(self):
        quota = Cap(3, "a") & Cap(2, "b") & Cap(4, "a", "b", "c") & Cap(4, "c")
        book = Book(quota, a=First("s"), b=First("s"), c=First("s"))
        told = {"": 0, "a": 3, "b": 2, "c": 4, "ab": 4, "ac": 4, "bc": 4, "abc": 4, "aa": 3, "ba": 4, "bb": 2}
        for kinds, most in told.items():
            self.assertEqual(book.at_once(*kinds), most, kinds)
        self.assertEqual(Book(Cap(3, "a") & Cap(2, "b"), a=First("s"), b=First("s")).at_once("b", "a", "b"), 5)
        for value in NO_NAMES + ["tiny", "x"]:
            check_error(self, ("NoKind", ("kind", value)), book.at_once, "a", value, "y", None)

    def test_enough(self):
        book = Book(Cap(2, "a") & Cap(3, "b") & Cap(4, "a", "b") & Cap(0, "c"),
                    a=First(("s", 2), ("t", 1), "s"), b=First("s", ("u", 9)), c=First(("v", 3), ("s", 5)))
        # In s: at most 4 of all three kinds at once, and 5 kept back by c, of which nothing comes.
        self.assertEqual(book.enough, House(s=9, t=3, u=12))
        self.assertEqual(Book(Cap(0, "a"), a=First(("s", 3))).enough, House())
        self.assertEqual(Book(Cap(2, "a"), a=First(("s", 1), ("s", 4))).enough, House(s=3))
        self.assertEqual(Book.of(Cap(12, "a"), {"a": First("self", ("none", 9))}).enough, House.of({"self": 12, "none": 21}))

    def test_equal(self):
        same = [Book(Cap(1, "a", "b"), a=First("s"), b=First("t")), Book(Cap(1, "b", "a"), b=First("t"), a=First("s")),
                Book(Cap(1, "a", "b"), a=First("s", ("s", 2)), b=First("t") | First("t"))]
        for one, other in itertools.product(same, repeat=2):
            self.assertTrue(one == other)
            self.assertFalse(one != other)
        for other in (same[0].without("a"), same[0].under(Cap(2, "a", "b")), same[0].exchanged("a", First("t")),
                      Book(Cap(1, "a", "b") & Cap(1), a=First("s"), b=First("t")),
                      Book(Cap(1, "a", "b", "c"), a=First("s"), b=First("t"))):
            self.assertFalse(same[0] == other)
            self.assertTrue(same[0] != other)
        for value in NO_OBJECTS:
            self.assertIs(BOOK == value, False)
            self.assertIs(Book(Cap(0)) == value, False)
            self.assertIs(BOOK != value, True)


class Changed(unittest.TestCase):
    def elder(self):
        """Fail unless the book from which others were made is as it was."""
        self.assertEqual(BOOK, Book(Cap(2, "small") & Cap(1, "big"), small=First("s", "b"), big=First("b")))
        self.assertEqual([BOOK.kinds, BOOK.bays, str(BOOK.enough)], [("big", "small"), ("b", "s"), "b 3 s 2"])

    def test_exchanged(self):
        book = BOOK.exchanged("small", First("t"))
        self.assertEqual(book, Book(BOTH, small=First("t"), big=First("b")))
        self.assertEqual(book.bays, ("b", "t"))
        self.elder()

    def test_with_a_kind_more(self):
        wide = BOOK.under(BOTH & Cap(1, "a"))
        self.assertEqual(wide.exchanged(kind="a", rule=First("z")).kinds, ("a", "big", "small"))
        self.assertEqual(wide.kinds, ("big", "small"))
        check_error(self, ("Unlimited", ("kind", "tiny")), BOOK.exchanged, "tiny", First("z"))
        five = Book.of(Cap(1, *"abcdef"), {name: First("s") for name in "abcde"})
        check_error(self, ("TooMany", ("what", "kinds"), ("most", 5)), five.exchanged, "f", First("s"))
        self.assertEqual(five.exchanged("e", First("t")).bays, ("s", "t"))
        full = Book.of(Cap(4, "a") & Cap(9, "b") & Cap(9, "c") & Cap(1, "d"), {name: First("s") for name in "abc"})
        check_error(self, ("TooMany", ("what", "counts"), ("most", 500)), full.exchanged, "d", First("s"))
        self.elder()

    def test_self_and_quota(self):
        book = Book.of(Cap(1, "self", "quota"), {"self": First("s")}).exchanged("quota", First("t"))
        self.assertEqual(book.kinds, ("quota", "self"))
        self.assertEqual(book.without("self").kinds, ("quota",))
        self.assertEqual(book.under(Cap(2, "self", "quota")).at_once("self"), 2)

    def test_without(self):
        self.assertEqual(BOOK.without("small"), Book(BOTH, big=First("b")))
        self.assertEqual(BOOK.without(kind="small").without("big"), Book(BOTH))
        check_error(self, ("NoKind", ("kind", "small")), BOOK.without("small").without, "small")
        for value in NO_NAMES + ["tiny"]:
            check_error(self, ("NoKind", ("kind", value)), BOOK.without, value)
        self.elder()

    def test_under(self):
        self.assertEqual(BOOK.under(quota=Cap(3, "small", "big")).at_once("big"), 3)
        check_error(self, ("Unlimited", ("kind", "big")), BOOK.under, Cap(3, "small"))
        check_error(self, ("Unlimited", ("kind", "big")), BOOK.under, Cap(3))
        three = Book.of(Cap(1, *"abc"), {name: First("s") for name in "abc"})
        check_error(self, ("TooMany", ("what", "counts"), ("most", 500)), three.under, Cap(9, "a") & Cap(9, "b") & Cap(9, "c"))
        self.elder()


def plain_fate(book, house, standing, kind):
    """What a coming does, by the words of the document."""
    counts = standing.counts
    counts[kind] = counts.get(kind, 0) + 1
    if counts not in book.quota:
        return ("barred",)
    for bay, keep in book[kind].picks:
        if house[bay] - standing.in_bay(bay) > keep:
            return ("goes", bay)
    return ("refused",)


class Fate(unittest.TestCase):
    def test_by_the_words(self):
        source = random.Random(12)
        seen = set()
        for _ in range(400):
            quota = Cap(source.randrange(1, 4), "a", "b") & Cap(2, "a", "x") & Cap(source.randrange(3), "b")
            rules = {kind: First(*[(bay, source.randrange(2)) for bay in source.sample("stu", source.randrange(1, 4))])
                     for kind in "ab"}
            book = Book.of(quota, rules)
            house = House(**{bay: source.randrange(4) for bay in "stu"})
            standing = Standing({pair: source.randrange(2) for pair in book.pairs})
            if not standing.fits(book, house):
                continue
            for kind in "ab":
                told = plain_fate(book, house, standing, kind)
                seen.add(told)
                self.assertEqual(book.fate(house, standing, kind), told)
                self.assertEqual(book.fate(kind=kind, house=house, standing=standing), told)
        self.assertEqual(len(seen), 5)

    def test_no_kind_ahead_of_misfit(self):
        wrong = Standing({("tiny", "x"): 9})
        for value in NO_NAMES + ["tiny"]:
            check_error(self, ("NoKind", ("kind", value)), BOOK.fate, House(), Standing.none(), value)
            check_error(self, ("NoKind", ("kind", value)), BOOK.fate, House(), wrong, value)

    def test_misfit_and_its_parts_in_their_order(self):
        house = House(b=1, s=2, x=9)
        rows = [({("tiny", "s"): 1}, "pair"), ({("big", "s"): 1}, "pair"), ({("small", "x"): 1}, "pair"),
                ({("big", "b"): 5, ("small", "x"): 1}, "pair"), ({("big", "b"): 1, ("small", "b"): 1}, "places"),
                ({("big", "b"): 2}, "places"), ({("small", "s"): 3, ("small", "b"): 1}, "places"),
                ({("small", "s"): 2, ("small", "b"): 1}, "quota"), ({("small", "b"): GREAT}, "places"),
                ({("small", "b"): GREAT, ("big", "b"): GREAT}, "places")]
        for table, part in rows:
            for kind in ("big", "small"):
                check_error(self, ("Misfit", ("part", part)), BOOK.fate, house, Standing(table), kind)
        check_error(self, ("Misfit", ("part", "quota")), BOOK.fate, House(b=9), Standing({("big", "b"): 2}), "small")
        check_error(self, ("Misfit", ("part", "places")), BOOK.fate, House(), Standing({("big", "b"): 1}), "big")

    def test_edges(self):
        self.assertEqual(BOOK.fate(House(), Standing.none(), "big"), ("refused",))
        self.assertEqual(BOOK.fate(House(s=GREAT, b=GREAT), Standing.none(), "small"), ("goes", "s"))
        # Barred comes ahead of refused, also where no place is free.
        self.assertEqual(BOOK.fate(House(b=1), Standing({("big", "b"): 1}), "big"), ("barred",))
        self.assertEqual(BOOK.fate(House(b=1), Standing({("big", "b"): 1}), "small"), ("refused",))
        nothing = Book(Cap(0, "a"), a=First("s"))
        self.assertEqual(nothing.fate(House(s=3), Standing.none(), "a"), ("barred",))
        narrow = Book(Cap(1, "a"), a=First())
        self.assertEqual(narrow.fate(House(s=3), Standing.none(), "a"), ("refused",))


if __name__ == "__main__":
    unittest.main()
