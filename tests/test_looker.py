"""Lookers: papers that show, papers changed in any place, and all sizes; held against the words of the document."""

import itertools
import random
import unittest

import plain_lookers
from helpers import DEEP, GREAT, LONG, NO_NAMES, NO_OBJECTS, check_error
from nextkind.books import Book
from nextkind.deeds import Row
from nextkind.houses import House
from nextkind.looker import shows_exact, shows_plan, shows_serving, shows_sure
from nextkind.papers import exact_paper, plan_paper, serving_paper
from nextkind.quotas import Cap
from nextkind.reach import reach
from nextkind.rules import First
from nextkind.standings import Standing, fitting
from oracle import World, small_book, small_house

QUOTA = Cap(2, "small") & Cap(1, "big") & Cap(2, "small", "big")
BOOK = Book(QUOTA, small=First("s", "b"), big=First("b"))
TWO = House(s=1, b=1)
GOOD = House(s=2, b=1)
WIDE = Book(Cap(12, "a") & Cap(6, "b"), a=First("s", "t", "w"), b=First("u", "v"))
FULL = House(s=4, t=4, w=4, u=3, v=3)
STANDINGS = ("TooMany", ("what", "standings"), ("most", 2000))
NO_KINDS = [value for value in NO_NAMES + NO_OBJECTS if value is not None] + ["tiny", "s", ("small",), BOOK]
ODD = NO_OBJECTS + [BOOK, TWO, Row(), Standing({}), reach(BOOK, TWO), LONG, DEEP, "serves", "refuses", "exact", "plan", "sure",
                    ("serves",), ("refuses",), ("exact",), ("plan",), ("sure",), ("serves", ()), ("exact", ()), ("plan", (), ()),
                    ("sure", None, ()), ("refuses", "big", None), ("serves", None), ("exact", None), ("plan", None, None)]


def small_worlds(seed, many, most=40):
    """Some books and houses with few standings."""
    source = random.Random(seed)
    worlds = []
    while len(worlds) < many:
        book = small_book(source, kinds="ab", bays="st", keeps=2)
        world = World(book, small_house(source, "stx"))
        if len(list(fitting(world.book, world.house))) <= most:
            worlds.append(world)
    return worlds


class Serving(unittest.TestCase):
    def test_papers_and_changed_papers(self):
        source = random.Random(61)
        seen = {}
        for world in small_worlds(62, 60):
            others = [serving_paper(world.book, house) for house in (House(), House(s=1, t=1), House(s=3, t=3))]
            for kind in (None,) + world.book.kinds:
                paper = serving_paper(world.book, world.house, kind)
                self.assertIs(shows_serving(world.book, world.house, paper, kind), True)
                for changed in plain_lookers.changed_papers(source, paper, 25) + others:
                    told = plain_lookers.shows_serving(world, changed, kind)
                    found = shows_serving(world.book, world.house, changed, kind)
                    self.assertIs(found, told, (changed, kind, str(world.house)))
                    seen[paper[0], told] = seen.get((paper[0], told), 0) + 1
        self.assertEqual(len(seen), 4)
        self.assertTrue(all(many > 50 for many in seen.values()), seen)

    def test_any_value(self):
        for value in ODD:
            for house in (TWO, GOOD):
                for kind in (None, "big"):
                    self.assertIs(shows_serving(BOOK, house, value, kind), False)

    def test_any_order_and_several_times(self):
        lists = serving_paper(BOOK, GOOD)[1]
        self.assertEqual(len(lists), 2)
        small = (("small", "s", 1),)
        for told in (lists, lists[::-1], lists + lists, lists + ((), small), (small, small) + lists):
            self.assertIs(shows_serving(BOOK, GOOD, ("serves", told)), True)
            self.assertIs(shows_serving(BOOK, GOOD, ("serves", told), "small"), True)
            self.assertIs(shows_serving(house=GOOD, book=BOOK, kind="big", paper=("serves", told)), True)
            self.assertIs(shows_serving(BOOK, GOOD, ("serves", list(told))), False)
            self.assertIs(shows_serving(BOOK, TWO, ("serves", told)), False)
        for told in (lists[:1], lists[1:], (), ((),), lists + (None,), lists + ((("big", "b", 2),),), lists[0], lists[1],
                     lists + ((("small", "s", 0),),), lists + ((("small", "s", True),),), lists + ((("big", "s", 1),),)):
            self.assertIs(shows_serving(BOOK, GOOD, ("serves", told)), False)

    def test_more_than_what_comes_about(self):
        # In the large house a never stands in t, but a list may have it.
        book = Book(Cap(1, "a"), a=First("s", "t"))
        one, other = (("a", "s", 1),), (("a", "t", 1),)
        self.assertIs(shows_serving(book, House(s=1, t=1), ("serves", (one,))), True)
        self.assertIs(shows_serving(book, House(s=1, t=1), ("serves", (one, other))), True)
        self.assertIs(shows_serving(book, House(s=1, t=1), ("serves", (other,))), False)

    def test_kinds_that_stay_outside(self):
        # Only small is asked for: that big is refused does not matter.
        paper = serving_paper(BOOK, TWO, "small")
        self.assertEqual(paper[0], "serves")
        self.assertEqual([shows_serving(BOOK, TWO, paper, "small"), shows_serving(BOOK, TWO, paper), shows_serving(BOOK, TWO, paper, "big")],
                         [True, False, False])
        refusing = serving_paper(BOOK, TWO)
        self.assertEqual([shows_serving(BOOK, TWO, refusing), shows_serving(BOOK, TWO, refusing, "big"),
                          shows_serving(BOOK, TWO, refusing, "small")], [True, True, False])

    def test_rows(self):
        row = serving_paper(BOOK, TWO)[2]
        turn = (("come", "big"), ("go", "big", "b"))
        self.assertIs(shows_serving(BOOK, TWO, ("refuses", "big", turn * 3 + row)), True)
        for wrong in (row[1:], row[:-1], row + row, row + (("come", "big"),), (("go", "big", "b"),) + row, row + (("come", "tiny"),),
                      list(row), row + (["come", "small"],), (("come", "small"),) * 3, (row,), "", "come", None, (None,),
                      row[:2] + (("go", "small", "s", "s"),), row[:2] + (("go", "small"),), row[:2] + (("go", ["small"], "s"),)):
            self.assertIs(shows_serving(BOOK, TWO, ("refuses", "big", wrong)), False)
        for kind in NO_KINDS + [None, "small", ("big",), ["big"]]:
            self.assertIs(shows_serving(BOOK, TWO, ("refuses", kind, row)), False)
        # Where its coming is barred, it is not refused.
        self.assertIs(shows_serving(BOOK, TWO, ("refuses", "big", (("come", "small"), ("come", "small")))), False)

    def test_book_without_kinds(self):
        book = Book(Cap(0))
        self.assertEqual(serving_paper(book, TWO), ("serves", ((),)))
        self.assertEqual([shows_serving(book, TWO, ("serves", told)) for told in (((),), ((), ()), (), None)],
                         [True, True, False, False])

    def test_sizes_of_papers(self):
        lists = serving_paper(BOOK, GOOD)[1]
        self.assertIs(shows_serving(BOOK, GOOD, ("serves", lists * 1000)), True)
        for told in (lists * 1000 + ((),), lists * 5000, lists + (None,) * 3000, ((),) * 2001):
            self.assertIs(shows_serving(BOOK, GOOD, ("serves", told)), False)
        turn, row = (("come", "big"), ("go", "big", "b")), serving_paper(BOOK, TWO)[2]
        empty = (("come", "small"), ("go", "small", "s"))
        self.assertEqual([len(turn * 998 + row), shows_serving(BOOK, TWO, ("refuses", "big", turn * 998 + row))], [1999, True])
        self.assertIs(shows_serving(BOOK, TWO, ("refuses", "big", empty * 500 + turn * 498 + row)), True)
        self.assertIs(shows_serving(BOOK, TWO, ("refuses", "big", turn * 999 + row)), False)
        self.assertIs(shows_serving(BOOK, House(s=1), ("refuses", "big", empty * 1000)), True)
        self.assertIs(shows_serving(BOOK, House(s=1), ("refuses", "big", empty * 1000 + (("come", "small"),))), False)

    def test_two_thousand_standings(self):
        paper = serving_paper(WIDE, FULL)
        self.assertIs(shows_serving(WIDE, FULL, paper), True)
        every = ("serves", tuple(standing.parts for standing in fitting(WIDE, FULL)))
        self.assertEqual([len(every[1]), shows_serving(WIDE, FULL, every)], [2000, True])


class Exact(unittest.TestCase):
    def test_papers_and_changed_papers(self):
        source = random.Random(63)
        seen = [0, 0]
        for world in small_worlds(64, 80):
            paper = exact_paper(world.book, world.house)
            self.assertIs(shows_exact(world.book, world.house, paper), True)
            others = [exact_paper(world.book, house) for house in (House(), House(s=1, t=1), House(s=3, t=3))]
            for changed in plain_lookers.changed_papers(source, paper, 30) + others:
                told = plain_lookers.shows_exact(world, changed)
                self.assertIs(shows_exact(world.book, world.house, changed), told, (changed, str(world.house)))
                seen[told] += 1
        self.assertTrue(min(seen) > 100, seen)

    def test_any_value(self):
        for value in ODD + [("exact", ((),)), ("exact", (((),),)), ("exact", (((), ()),))]:
            self.assertIs(shows_exact(BOOK, TWO, value), False)

    def test_order_and_rows(self):
        pairs = exact_paper(BOOK, TWO)[1]
        self.assertEqual(len(pairs), 2)
        longer = (pairs[0][0], (("come", "big"), ("go", "big", "b")) + pairs[0][1])
        self.assertIs(shows_exact(BOOK, TWO, ("exact", (longer, pairs[1]))), True)
        self.assertIs(shows_exact(paper=("exact", pairs), house=TWO, book=BOOK), True)
        small = (pairs[0][0][:1], (("come", "small"), ("come", "small"), ("go", "small", "s")))
        none = ((), ())
        for told in (pairs[::-1], pairs[:1], pairs[1:], pairs + pairs, pairs[:1] + pairs, (none,) + pairs, (small,) + pairs,
                     list(pairs), (pairs[0], (pairs[1][0], pairs[0][1])), (pairs[0], pairs[1][::-1]), (pairs[0], list(pairs[1])),
                     (pairs[0], pairs[1] + ((),)), (pairs[0], (pairs[1][0], list(pairs[1][1]))), (pairs[0], None), ((), ())):
            self.assertIs(shows_exact(BOOK, TWO, ("exact", told)), False)

    def test_more_than_what_comes_about(self):
        # The list is shut for no kind, but its last standing never comes about: no row leads there.
        book = Book(Cap(1, "a"), a=First("s", "t"))
        pairs = exact_paper(book, House(s=1, t=1))[1]
        for row in ((), (("come", "a"),), (("come", "a"), ("go", "a", "s"))):
            other = ((("a", "t", 1),), row)
            self.assertIs(shows_exact(book, House(s=1, t=1), ("exact", pairs + (other,))), False)
            self.assertIs(shows_exact(book, House(s=1, t=1), ("exact", (other,) + pairs)), False)

    def test_book_without_kinds(self):
        book = Book(Cap(0))
        self.assertEqual(exact_paper(book, TWO), ("exact", (((), ()),)))
        self.assertEqual([shows_exact(book, TWO, ("exact", told)) for told in ((((), ()),), (((), ()), ((), ())), ())], [True, False, False])

    def test_sizes_of_papers(self):
        pairs = exact_paper(BOOK, TWO)[1]
        turn = (("come", "big"), ("go", "big", "b"))
        for many, told in ((999, True), (1000, False)):
            longer = ((pairs[0][0], turn * many + pairs[0][1]), pairs[1])
            self.assertIs(shows_exact(BOOK, TWO, ("exact", longer)), told)
        self.assertIs(shows_exact(BOOK, TWO, ("exact", pairs * 1001)), False)
        self.assertIs(shows_exact(WIDE, FULL, exact_paper(WIDE, FULL)), True)


class Plans(unittest.TestCase):
    def test_papers_and_changed_papers(self):
        source = random.Random(65)
        seen = [0, 0]
        for book in self.books(66, 25):
            for kind in (None,) + book.kinds[:1]:
                paper = plan_paper(book, kind)
                told = plain_lookers.plan_numbers(book, kind)
                self.assertIs(shows_plan(book, paper, kind), True)
                self.assertIs(plain_lookers.shows_plan(book, paper, kind, told), True)
                for changed in plain_lookers.changed_papers(source, paper, 40):
                    right = plain_lookers.shows_plan(book, changed, kind, told)
                    self.assertIs(shows_plan(book, changed, kind), right, (changed, kind))
                    seen[right] += 1
        self.assertTrue(min(seen) > 100, seen)

    def books(self, seed, many):
        """Some books with few houses at most enough, and a few at the edges."""
        source = random.Random(seed)
        books = [Book(Cap(0)), Book(Cap(1, "a"), a=First()), Book(Cap(0, "a") & Cap(1, "b"), a=First(("s", 2)), b=First("t")), BOOK]
        while len(books) < many:
            book = small_book(source, kinds="ab", bays="st", keeps=2)
            if (book.enough["s"] + 1) * (book.enough["t"] + 1) < 30:
                books.append(book)
        return books

    def test_any_value(self):
        for value in ODD + [("plan", ((),), ()), ("plan", (((), ()),), ()), ("plan", (), (((), "big", ()),))]:
            self.assertIs(shows_plan(BOOK, value), False)
            self.assertIs(shows_plan(BOOK, value, "small"), False)

    def test_papers_of_other_kinds_and_books(self):
        papers = {kind: plan_paper(BOOK, kind) for kind in (None, "big", "small")}
        for one, other in itertools.product(papers, repeat=2):
            told = plain_lookers.shows_plan(BOOK, papers[other], one, plain_lookers.plan_numbers(BOOK, one))
            self.assertIs(shows_plan(BOOK, papers[other], one), told, (one, other))
            self.assertIs(told, "small" not in (one, other) or one == other)
        self.assertIs(shows_plan(paper=papers["small"], kind="small", book=BOOK), True)
        kept = BOOK.exchanged("small", First("s", ("b", 1)))
        self.assertEqual([shows_plan(kept, papers[None]), shows_plan(BOOK, plan_paper(kept))], [False, False])

    def test_just_the_tuples(self):
        _, least, greatest = plan_paper(BOOK)
        self.assertEqual([[row[0] for row in least], [row[0] for row in greatest]], [[(1, 2), (2, 0)], [(0, None), (1, 1)]])
        every = tuple(standing.parts for standing in reach(BOOK, House(b=2, s=1)))
        self.assertIs(shows_serving(BOOK, House(b=2, s=1), ("serves", every)), True)
        more = ((2, 1), every)
        for rows in (least + (more,), least[:1] + (more,), least[::-1], least[:1], least[1:], (), least + least[1:], least[:1] + least,
                     list(least), least + (((2,), every),), least + (((2, 0, 0), every),), least + (([2, 0], every),),
                     (((True, 2), least[0][1]), least[1]), least[:1] + (((2, 0), every),), least[:1] + (((2, None), every),),
                     least[:1] + (((2, GREAT), every),), (((-1, 2), every),) + least, (least[0], least[1] + ((),)), None, least[0]):
            self.assertIs(shows_plan(BOOK, ("plan", rows, greatest)), False, rows)
        row = greatest[1][2]
        for rows in (greatest[::-1], greatest[:1], greatest[1:], (), greatest + greatest[1:], greatest[:1] + greatest, list(greatest),
                     (((0, 2), "big", ()), greatest[1]), (((0, 0), "big", ()),) + greatest, (((0, 5), "big", ()), greatest[1]),
                     (((False, None), "big", ()), greatest[1]), (((0, None), "small", ()), greatest[1]), (greatest[0][:2], greatest[1]),
                     (greatest[0], ((1, 0), "big", row)), (greatest[0], ((1, 0), "big", (("come", "small"),)), greatest[1]),
                     (([0, None], "big", ()), greatest[1]), (greatest[0], (greatest[1][0], "big", list(row))), None, greatest[0]):
            self.assertIs(shows_plan(BOOK, ("plan", least, rows)), False, rows)

    def test_other_lists_and_rows(self):
        _, least, greatest = plan_paper(BOOK)
        turned = tuple((numbers, lists[::-1] + ((),)) for numbers, lists in least)
        turn = (("come", "small"), ("go", "small", "s"))
        longer = (greatest[0], greatest[1][:2] + (turn + greatest[1][2],))
        self.assertIs(shows_plan(BOOK, ("plan", turned, longer)), True)
        # All standings of a greater house: no coming leads out of them, but some do not fit the house of these numbers.
        every = tuple(standing.parts for standing in fitting(BOOK, House(b=2, s=2)))
        self.assertIs(shows_plan(BOOK, ("plan", (least[0], (least[1][0], every)), greatest)), False)
        fit = tuple(standing.parts for standing in fitting(BOOK, House(b=2)))
        self.assertIs(shows_plan(BOOK, ("plan", (least[0], (least[1][0], fit)), greatest)), True)

    def test_sizes_of_papers(self):
        _, least, greatest = plan_paper(BOOK)
        turn = (("come", "small"), ("go", "small", "s"))
        for many, told in ((998, True), (1000, False)):
            longer = (greatest[0], greatest[1][:2] + (turn * many + greatest[1][2],))
            self.assertIs(shows_plan(BOOK, ("plan", least, longer)), told)
        for many, told in ((1000, True), (1001, False)):
            lists = ((least[0][0], least[0][1] * many), least[1])
            self.assertIs(shows_plan(BOOK, ("plan", lists, greatest)), told)
        self.assertIs(shows_plan(BOOK, ("plan", least * 1001, greatest)), False)
        self.assertIs(shows_plan(BOOK, ("plan", least, greatest * 1001)), False)


class Sure(unittest.TestCase):
    def test_papers_and_changed_papers(self):
        source = random.Random(67)
        seen = {}
        for world in small_worlds(68, 60, most=20):
            for standing in source.sample(list(fitting(world.book, world.house)), 1) + [Standing.none()]:
                start = world.numbers(standing)
                for kind in (None,) + world.book.kinds[:1]:
                    paper = plain_lookers.sure_paper(world, start, kind)
                    self.assertIs(shows_sure(world.book, world.house, standing, paper, kind), True)
                    for changed in plain_lookers.changed_papers(source, paper, 15) + self.shorter(paper):
                        told = plain_lookers.shows_sure(world, start, changed, kind)
                        found = shows_sure(world.book, world.house, standing, changed, kind)
                        self.assertIs(found, told, (changed, kind, str(world.house), str(standing)))
                        key = (told, changed.__class__ is tuple and len(changed) == 3 and changed[1] is None)
                        seen[key] = seen.get(key, 0) + 1
        self.assertEqual(len(seen), 4)
        self.assertTrue(all(many > 100 for many in seen.values()), seen)

    def shorter(self, paper):
        """Papers for fewer and for more comings than one tells."""
        lists = paper[2]
        found = [("sure", many, lists[:many]) for many in range(len(lists) + 2)]
        return found + [("sure", None, lists[:many]) for many in range(len(lists) + 1)] + [("sure", None, lists + lists[-1:])]

    def test_any_value(self):
        for value in ODD + [("sure", None, None), ("sure", 1, ()), ("sure", 0, ((),)), ("sure", False, ()), ("sure", "0", ()), ("sure", -1, ())]:
            for standing in (None, Standing.none()):
                self.assertIs(shows_sure(BOOK, TWO, standing, value), False)

    def test_none_stands_for_the_empty_one(self):
        paper = ("sure", 2, (((),), ((("small", "s", 1),), (("big", "b", 1),))))
        self.assertEqual([shows_sure(BOOK, TWO, None, paper), shows_sure(BOOK, TWO, Standing.none(), paper),
                          shows_sure(BOOK, TWO, Standing({("small", "s"): 1}), paper)], [True, True, False])
        self.assertIs(shows_sure(kind=None, paper=("sure", 0, ()), standing=Standing({("small", "s"): 1}), house=TWO, book=BOOK), True)

    def test_empty_lists(self):
        # Where nothing can come, the list behind may be empty; the first one may not.
        book = Book(Cap(0, "a"), a=First("s"))
        self.assertEqual([shows_sure(book, TWO, None, ("sure", 2, lists)) for lists in ((((),), ()), ((), ()), (((),), ((),)))],
                         [True, False, True])

    def test_misfit(self):
        for table, part in (({("tiny", "s"): 1}, "pair"), ({("big", "b"): 2}, "places"), ({("small", "s"): 3, ("x", "y"): 1}, "pair"),
                            ({("small", "s"): 1, ("small", "b"): 2}, "places")):
            check_error(self, ("Misfit", ("part", part)), shows_sure, BOOK, TWO, Standing(table), None)
        check_error(self, ("Misfit", ("part", "quota")), shows_sure, BOOK, House(b=3), Standing({("small", "b"): 3}), None, "big")
        # A kind that is none is told ahead of it, and too many standings behind it.
        check_error(self, ("NoKind", ("kind", 1)), shows_sure, BOOK, TWO, Standing({("tiny", "s"): 1}), None, 1)
        check_error(self, ("Misfit", ("part", "pair")), shows_sure, WIDE, FULL.put("u", 4), Standing({("tiny", "s"): 1}), None)

    def test_sizes_of_papers(self):
        good = plain_lookers.sure_paper(World(BOOK, GOOD), World(BOOK, GOOD).empty, None)
        self.assertIs(good[1], None)
        last = good[2][-1]
        for many, told in ((2000, True), (2001, False), (5000, False)):
            self.assertIs(shows_sure(BOOK, GOOD, None, ("sure", None, (last,) * many)), told)
            self.assertIs(shows_sure(BOOK, GOOD, None, ("sure", many, (last,) * many)), told)
        self.assertIs(shows_sure(BOOK, GOOD, None, ("sure", 1, (last * 1000,))), True)
        self.assertIs(shows_sure(BOOK, GOOD, None, ("sure", 1, (last * 1001,))), False)
        self.assertIs(shows_sure(BOOK, GOOD, None, ("sure", GREAT + 1, (last,))), False)


class Errors(unittest.TestCase):
    def test_no_kind_ahead_of_all(self):
        for value in NO_KINDS:
            told = ("NoKind", ("kind", value))
            for book, house in ((BOOK, TWO), (WIDE, FULL.put("u", 4))):
                if value in book:
                    continue
                for paper in (None, ("serves", ()), serving_paper(BOOK, TWO)):
                    check_error(self, told, shows_serving, book, house, paper, value)
                    check_error(self, told, shows_plan, book, paper, value)
                    check_error(self, told, shows_sure, book, house, None, paper, value)

    def test_too_many_standings_whatever_the_paper_is(self):
        wide = FULL.put("u", 4)
        for value in ODD + [serving_paper(BOOK, GOOD), exact_paper(BOOK, GOOD), ("sure", 0, ())]:
            check_error(self, STANDINGS, shows_serving, WIDE, wide, value)
            check_error(self, STANDINGS, shows_serving, WIDE, wide, value, "a")
            check_error(self, STANDINGS, shows_exact, WIDE, wide, value)
            check_error(self, STANDINGS, shows_sure, WIDE, wide, None, value)
            check_error(self, STANDINGS, shows_sure, WIDE, wide, Standing({("a", "s"): 1}), value, "b")

    def test_plans_that_are_too_great(self):
        houses = Book(Cap(4, "a") & Cap(4, "b") & Cap(10, "c"), a=First("s"), b=First("t"), c=First("u"))
        standings = Book(Cap(5, *"abcde"), **{kind: First("s", "t") for kind in "abcde"})
        both = Book(Cap(12, "a") & Cap(5, "b"), a=First("s", "t", "u"), b=First("u", "v"))
        for value in ODD + [plan_paper(BOOK)]:
            check_error(self, ("TooMany", ("what", "houses"), ("most", 250)), shows_plan, houses, value)
            check_error(self, ("TooMany", ("what", "standings"), ("most", 400)), shows_plan, standings, value)
            check_error(self, ("TooMany", ("what", "houses"), ("most", 250)), shows_plan, both, value, "b")


if __name__ == "__main__":
    unittest.main()
