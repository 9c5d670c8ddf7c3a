"""Papers: what they are made of, and that each paper that is made is shown."""

import random
import time
import unittest

import plain_lookers
from helpers import NO_NAMES, NO_OBJECTS, check_error, same
from nextkind.books import Book
from nextkind.deeds import Row
from nextkind.houses import House
from nextkind.looker import shows_exact, shows_plan, shows_serving
from nextkind.papers import exact_paper, plan_paper, serving_paper
from nextkind.plans import plan
from nextkind.quotas import Cap
from nextkind.reach import reach
from nextkind.rules import First
from nextkind.standings import Standing
from oracle import World, small_book, small_worlds

QUOTA = Cap(2, "small") & Cap(1, "big") & Cap(2, "small", "big")
BOOK = Book(QUOTA, small=First("s", "b"), big=First("b"))
WIDE = Book(Cap(12, "a") & Cap(6, "b"), a=First("s", "t", "w"), b=First("u", "v"))
FULL = House(s=4, t=4, w=4, u=3, v=3)
STANDINGS = ("TooMany", ("what", "standings"), ("most", 2000))
NO_KINDS = [value for value in NO_NAMES + NO_OBJECTS if value is not None] + ["tiny", "s", BOOK]


def is_plain(value):
    """Whether a value is built of tuples, strings, integers and None."""
    if value.__class__ is tuple:
        return all(is_plain(part) for part in value)
    return value is None or value.__class__ in (str, int)


class Papers(unittest.TestCase):
    def test_serving(self):
        for world in small_worlds(71, 120):
            refused = world.refusals()
            greatest = tuple(world.of(numbers).parts for numbers in world.greatest())
            for kind in (None,) + world.book.kinds:
                paper = serving_paper(world.book, world.house, kind)
                if kind is None and refused:
                    first = min((len(row), name) for name, row in refused.items())[1]
                    told = ("refuses", first, refused[first])
                elif kind in refused:
                    told = ("refuses", kind, refused[kind])
                else:
                    told = ("serves", greatest)
                self.assertTrue(same(paper, told), (paper, told))
                self.assertTrue(is_plain(paper))
                self.assertIs(shows_serving(world.book, world.house, paper, kind), True)

    def test_exact(self):
        for world in small_worlds(72, 120):
            paper = exact_paper(world.book, world.house)
            came = world.came()
            told = ("exact", tuple((world.of(numbers).parts, came[numbers]) for numbers in world.greatest()))
            self.assertTrue(same(paper, told), (paper, told))
            self.assertIs(shows_exact(world.book, world.house, paper), True)

    def test_plan(self):
        source = random.Random(73)
        for _ in range(40):
            book = small_book(source, kinds="ab", bays="st", keeps=2)
            for kind in (None,) + book.kinds:
                least, greatest = plain_lookers.plan_numbers(book, kind)
                paper = plan_paper(book, kind)
                self.assertEqual([paper[0], [row[0] for row in paper[1]], [row[0] for row in paper[2]]], ["plan", least, greatest])
                self.assertTrue(is_plain(paper) and len(paper) == 3)
                for row in paper[1]:
                    self.assertEqual(("serves",) + row[1:], serving_paper(book, House(**dict(zip(book.bays, row[0]))), kind))
                for row in paper[2]:
                    house = House(**{bay: book.enough[bay] if number is None else number for bay, number in zip(book.bays, row[0])})
                    self.assertEqual(("refuses",) + row[1:], serving_paper(book, house, kind))
                self.assertIs(shows_plan(book, paper, kind), True)

    def test_parts_are_read_back(self):
        paper = serving_paper(BOOK, House(s=1, b=1))
        self.assertEqual(str(Row.from_parts(paper[2])), "come small ; come small ; go small s")
        for parts in serving_paper(BOOK, House(s=2, b=1))[1]:
            standing = Standing({(kind, bay): number for kind, bay, number in parts})
            self.assertEqual(standing.parts, parts)

    def test_by_arguments_with_names(self):
        house = House(s=1, b=1)
        self.assertEqual(serving_paper(kind="small", house=house, book=BOOK), serving_paper(BOOK, house, "small"))
        self.assertEqual(exact_paper(house=house, book=BOOK), exact_paper(BOOK, house))
        self.assertEqual(plan_paper(kind="small", book=BOOK), plan_paper(BOOK, "small"))
        self.assertEqual([serving_paper(BOOK, house, None), plan_paper(BOOK, None)], [serving_paper(BOOK, house), plan_paper(BOOK)])

    def test_edges(self):
        empty = Book(Cap(0))
        self.assertEqual([serving_paper(empty, House()), exact_paper(empty, House()), plan_paper(empty)],
                         [("serves", ((),)), ("exact", (((), ()),)), ("plan", (((), ((),)),), ())])
        never = Book(Cap(1, "a"), a=First())
        self.assertEqual([serving_paper(never, House(s=1)), exact_paper(never, House(s=1)), plan_paper(never)],
                         [("refuses", "a", ()), ("exact", (((), ()),)), ("plan", (), (((), "a", ()),))])
        nothing = Book(Cap(0, "a"), a=First(("s", 2)))
        self.assertEqual([serving_paper(nothing, House()), plan_paper(nothing)], [("serves", ((),)), ("plan", (((0,), ((),)),), ())])


class Errors(unittest.TestCase):
    def test_no_kind(self):
        for value in NO_KINDS:
            check_error(self, ("NoKind", ("kind", value)), serving_paper, BOOK, House(), value)
            check_error(self, ("NoKind", ("kind", value)), plan_paper, BOOK, value)
            if value not in WIDE:
                check_error(self, ("NoKind", ("kind", value)), serving_paper, WIDE, FULL.put("u", 9), value)
                check_error(self, ("NoKind", ("kind", value)), plan_paper, WIDE, value)

    def test_too_many(self):
        wide = FULL.put("u", 4)
        check_error(self, STANDINGS, serving_paper, WIDE, wide)
        check_error(self, STANDINGS, serving_paper, WIDE, wide, "b")
        check_error(self, STANDINGS, exact_paper, WIDE, wide)
        check_error(self, ("TooMany", ("what", "houses"), ("most", 250)), plan_paper, WIDE)
        check_error(self, ("TooMany", ("what", "standings"), ("most", 400)), plan_paper,
                    Book(Cap(5, *"abcde"), **{kind: First("s", "t") for kind in "abcde"}), "b")

    def test_great_papers_in_a_few_seconds(self):
        began = time.process_time()
        paper = exact_paper(WIDE, FULL)
        self.assertEqual([len(paper[1]), shows_exact(WIDE, FULL, paper)], [len(reach(WIDE, FULL).greatest), True])
        source = random.Random(74)
        book = Book(Cap(2, *"abcde"), **{kind: First(*source.sample("stuvw", 3)) for kind in "abcde"})
        for kind in (None, "a", "e"):
            paper = plan_paper(book, kind)
            self.assertEqual([row[0] for row in paper[1]], list(plan(book, kind).least))
            self.assertIs(shows_plan(book, paper, kind), True)
        self.assertLess(time.process_time() - began, 10)


class Sure(unittest.TestCase):
    def test_plain_papers_are_as_told(self):
        """The papers with which the tests of lookers begin tell what the document tells of its example."""
        paper = plain_lookers.sure_paper(World(BOOK, House(s=1, b=1)), (0, 0, 0), None)
        self.assertEqual(paper, ("sure", 2, (((),), ((("small", "s", 1),), (("big", "b", 1),)))))
        paper = plain_lookers.sure_paper(World(BOOK, House(b=2)), (0, 0, 0), None)
        self.assertEqual(paper, ("sure", None, (((),), ((("small", "b", 1),), (("big", "b", 1),)),
                                                ((("small", "b", 2),), (("big", "b", 1), ("small", "b", 1))))))


if __name__ == "__main__":
    unittest.main()
