"""Sure: comings, rows and lists, held against slow walks; errors, sizes, and the papers of what is found."""

import random
import time
import unittest

import plain_lookers
from helpers import GREAT, NO_NAMES, NO_OBJECTS, check_error, same
from nextkind.books import Book
from nextkind.deeds import Row
from nextkind.halls import Hall
from nextkind.houses import House
from nextkind.limits import limits
from nextkind.looker import shows_sure
from nextkind.papers import sure_paper
from nextkind.plans import plan
from nextkind.quotas import Cap
from nextkind.reach import reach
from nextkind.rules import Even, First
from nextkind.standings import Standing, fitting
from nextkind.sure import sure
from oracle import small_book, small_house, World
from plain_walks import rows_within, sure_row

QUOTA = Cap(2, "small") & Cap(1, "big") & Cap(2, "small", "big")
BOOK = Book(QUOTA, small=First("s", "b"), big=First("b"))
TWO = House(s=1, b=1)
WIDE = Book(Cap(12, "a") & Cap(6, "b"), a=First("s", "t", "w"), b=First("u", "v"))
FULL = House(s=4, t=4, w=4, u=3, v=3)
NO_KINDS = [value for value in NO_NAMES + NO_OBJECTS if value is not None] + ["tiny", "s", ("small",), BOOK]


def worlds(seed, many, most=60, **told):
    """Some books and houses with few standings, each with some standings that fit (also such as never come about)."""
    source = random.Random(seed)
    found = []
    while len(found) < many:
        world = World(small_book(source, **told), small_house(source))
        standings = list(fitting(world.book, world.house))
        if len(standings) <= most:
            found.append((world, [Standing.none()] + source.sample(standings, min(2, len(standings)))))
    return found


class Found(unittest.TestCase):
    def test_held_against_slow_walks(self):
        seen = {}
        for world, standings in worlds(111, 200):
            came = world.came()
            for standing in standings:
                start = world.numbers(standing)
                for kind in (None,) + world.book.kinds:
                    found = sure(world.book, world.house, standing, kind)
                    comings, lists = plain_lookers.sure_lists(world, start, kind)
                    self.assertEqual(found.comings, comings)
                    self.assertTrue(same([[world.numbers(one) for one in some] for some in found.lists], lists))
                    self.assertIs(bool(found), comings is None)
                    self.check_row(world, start, kind, found)
                    key = (min(comings, 2) if comings is not None else None, start in came)
                    seen[key] = seen.get(key, 0) + 1
        self.assertEqual(len(seen), 8, seen)
        self.assertTrue(all(many > 4 for many in seen.values()), seen)

    def check_row(self, world, start, kind, found):
        """Fail unless the row found is the first one of the slow walk."""
        told = sure_row(world, start, kind)
        if told is None:
            self.assertEqual((found.comings, found.row), (None, None))
            return
        self.assertEqual((found.comings, found.row[0], found.row[1].parts), (told[0],) + told[1])
        self.assertIsInstance(found.row[1], Row)
        self.assertEqual(found.row[1].comings, found.comings)
        hall = Hall.beginning(world.book, world.house, world.of(start))
        hall.play(found.row[1])
        self.assertEqual(hall.fate(found.row[0]), ("refused",))

    def test_held_against_all_rows(self):
        """All rows with at most two comings, for the comings and for the lists."""
        for world, standings in worlds(112, 40, most=25, kinds="ab", bays="st"):
            for standing in standings[1:]:
                start = world.numbers(standing)
                rows = [rows_within(world, start, comings) for comings in range(3)]
                for kind in (None,) + world.book.kinds:
                    kinds = world.book.kinds if kind is None else (kind,)
                    found = sure(world.book, world.house, standing, kind)
                    ends = [[(len(row), name, row) for row, last in some for name in kinds if world.fate(last, name) == ("refused",)]
                            for some in rows]
                    first = [comings for comings in range(3) if ends[comings]]
                    if first:
                        self.assertEqual(found.comings, first[0])
                        self.assertEqual((found.row[0], found.row[1].parts), min(ends[first[0]])[1:])
                    else:
                        self.assertTrue(found.comings is None or found.comings > 2)
                    for number, some in enumerate(found.lists[:3]):
                        lasts = {last for _, last in rows[number]}
                        self.assertEqual(plain_lookers.all_below([world.numbers(one) for one in some]), lasts)

    def test_from_the_empty_standing_for_all_is_serving(self):
        for world, _ in worlds(113, 80):
            for kind in (None,) + world.book.kinds:
                self.assertIs(bool(sure(world.book, world.house, kind=kind)), world.serves(kind))

    def test_the_empty_one_if_none_is_told(self):
        for found in (sure(BOOK, TWO), sure(BOOK, TWO, None), sure(BOOK, TWO, Standing.none(), None),
                      sure(kind=None, standing=None, house=TWO, book=BOOK)):
            self.assertEqual([found.comings, found.row[0], str(found.row[1])], [2, "big", "come small ; come small ; go small s"])
        self.assertEqual([str(one) for one in sure(BOOK, TWO).lists[1]], ["small s 1", "big b 1"])

    def test_no_comings(self):
        for kind in (None, "big"):
            found = sure(BOOK, TWO, Standing({("small", "b"): 1}), kind)
            self.assertEqual([found.comings, bool(found), found.row[0], str(found.row[1]), found.lists], [0, False, "big", "none", ()])
        # What goes first is no coming: big is barred until one of the small ones is gone.
        found = sure(BOOK, TWO, Standing({("small", "b"): 1, ("small", "s"): 1}))
        self.assertEqual([found.comings, str(found.row[1]), found.lists], [0, "go small s", ()])
        self.assertIsNone(sure(BOOK, TWO, Standing({("small", "b"): 1}), "small").comings)

    def test_any_number_of_comings(self):
        found = sure(BOOK, House(b=2))
        self.assertEqual([found.comings, bool(found), found.row], [None, True, None])
        self.assertEqual([[str(one) for one in some] for some in found.lists],
                         [["none"], ["small b 1", "big b 1"], ["small b 2", "big b 1 small b 1"]])
        # From the fullest standings nothing new comes: the first list is that of the next one.
        book = Book(Cap(1, "a"), a=First("s"))
        found = sure(book, House(s=1), Standing({("a", "s"): 1}))
        self.assertEqual([[str(one) for one in some] for some in found.lists], [["a s 1"]])

    def test_fewest_deeds_then_least_kind_then_first_row(self):
        # Behind one coming b and c are refused: behind its own coming b, and behind that of a both.
        book = Book(Cap(2, *"abc") & Cap(1, "a"), a=First("s"), b=First("s"), c=First("s"))
        found = sure(book, House(s=1))
        self.assertEqual([found.comings, found.row[0], str(found.row[1])], [1, "a", "come b"])
        self.assertEqual([sure(book, House(s=1), kind=kind).row[1].parts for kind in "abc"],
                         [(("come", "b"),), (("come", "a"),), (("come", "a"),)])

    def test_fewest_comings_ahead_of_fewest_deeds(self):
        """Three goings without a coming are told, not the one coming behind which e is refused."""
        quota = Cap(1, "a", "b") & Cap(1, "a", "c") & Cap(1, "a", "d") & Cap(2, "e")
        book = Book(quota, a=First("p"), b=First("q"), c=First("q"), d=First("q"), e=First("r"))
        full = Standing({(kind, "q"): 1 for kind in "bcd"})
        found = sure(book, House(q=3, r=1), full)
        self.assertEqual([found.comings, found.row[0], str(found.row[1])], [0, "a", "go b q ; go c q ; go d q"])
        found = sure(book, House(q=3, r=1), full, "e")
        self.assertEqual([found.comings, found.row[0], str(found.row[1])], [1, "e", "come e"])

    def test_book_without_kinds(self):
        found = sure(Book(Cap(0)), TWO)
        self.assertEqual([found.comings, bool(found), found.row, [[str(one) for one in some] for some in found.lists]],
                         [None, True, None, [["none"]]])

    def test_great_houses(self):
        for places in (2, 3, 10 ** 30, GREAT):
            self.assertIsNone(sure(BOOK, House(s=places, b=GREAT)).comings)
            found = sure(BOOK, House(s=places, b=0))
            self.assertEqual([found.comings, str(found.row[1])], [0, "none"])
        self.assertEqual(sure(BOOK, House(s=GREAT, b=1, n=GREAT), Standing({("small", "s"): 2})).comings, None)


class Errors(unittest.TestCase):
    def test_no_kind_ahead_of_misfit(self):
        for value in NO_KINDS:
            for book, house in ((BOOK, TWO), (WIDE, FULL.put("u", 4))):
                if not (isinstance(value, str) and value in book):
                    for standing in (None, Standing({("tiny", "s"): 1})):
                        check_error(self, ("NoKind", ("kind", value)), sure, book, house, standing, value)
        check_error(self, ("NoKind", ("kind", "a")), sure, Book(Cap(0)), TWO, None, "a")

    def test_misfit(self):
        for table, part in (({("tiny", "s"): 1}, "pair"), ({("big", "s"): 1}, "pair"), ({("big", "b"): 2}, "places"),
                            ({("small", "s"): 3, ("x", "y"): 1}, "pair"), ({("small", "s"): 1, ("small", "b"): 2}, "places")):
            for kind in (None, "big"):
                check_error(self, ("Misfit", ("part", part)), sure, BOOK, TWO, Standing(table), kind)
        check_error(self, ("Misfit", ("part", "quota")), sure, BOOK, House(b=3), Standing({("small", "b"): 3}))
        check_error(self, ("Misfit", ("part", "places")), sure, BOOK, House(b=2), Standing({("small", "b"): 3}))
        # It is told ahead of standings that are too many.
        check_error(self, ("Misfit", ("part", "places")), sure, WIDE, FULL.put("u", 4), Standing({("a", "s"): 5}))

    def test_too_many_standings(self):
        told = ("TooMany", ("what", "standings"), ("most", 2000))
        self.assertEqual(len(list(fitting(WIDE, FULL))), 2000)
        self.assertIsNone(sure(WIDE, FULL).comings)
        for house in (FULL.put("u", 4), FULL * 10 ** 50):
            for standing in (None, Standing({("a", "s"): 1})):
                check_error(self, told, sure, WIDE, house, standing)
                check_error(self, told, sure, WIDE, house, standing, "b")

    def test_time(self):
        began = time.time()
        for house in (FULL, FULL.put("t", 3), FULL.put("v", 2), FULL.put("s", 1)):
            for standing in (None, Standing({("a", "s"): 1, ("b", "v"): 2})):
                found = sure(WIDE, house, standing)
                self.assertEqual(shows_sure(WIDE, house, standing, sure_paper(found)), True)
        self.assertLess(time.time() - began, 10)


class Papers(unittest.TestCase):
    def test_papers(self):
        """Each paper is shown for its own standing and for fewer comings, and for nothing that is not so."""
        shown = 0
        for world, standings in worlds(115, 60, most=30):
            for standing in standings:
                start = world.numbers(standing)
                for kind in (None,) + world.book.kinds[:1]:
                    paper = sure_paper(sure(world.book, world.house, standing, kind))
                    self.assertTrue(same(paper, plain_lookers.sure_paper(world, start, kind)), paper)
                    self.assertIs(shows_sure(world.book, world.house, standing, paper, kind), True)
                    shown += self.check_changed(world, standing, kind, paper)
        self.assertGreater(shown, 300)

    def check_changed(self, world, standing, kind, paper):
        """Hold papers made from one against the words of the document; how many of them are shown."""
        lists = paper[2]
        rows = [("sure", many, lists[:many]) for many in range(len(lists) + 1)]
        if paper[1] is not None:
            self.assertTrue(all(shows_sure(world.book, world.house, standing, row, kind) for row in rows))
            more = ("sure", paper[1] + 1, lists + (lists[-1:] or (((),),))[0:1])
            self.assertIs(shows_sure(world.book, world.house, standing, more, kind), False)
            self.assertIs(shows_sure(world.book, world.house, standing, ("sure", None, lists), kind), False)
        for at in range(len(lists)):
            rows += [("sure", paper[1], lists[:at] + lists[at + 1:]), ("sure", paper[1], lists[:at] + lists[at:at + 1] + lists[at:])]
            rows += [("sure", paper[1], lists[:at] + (some,) + lists[at + 1:]) for some in (lists[-1], lists[0], ((),), (), lists[at][1:])]
            rows.append(("sure", paper[1] if paper[1] is None else paper[1] - 1, lists[:at] + lists[at + 1:]))
        found = [shows_sure(world.book, world.house, standing, row, kind) for row in rows]
        self.assertEqual(found, [plain_lookers.shows_sure(world, world.numbers(standing), row, kind) for row in rows])
        return sum(found)

    def test_another_standing(self):
        paper = sure_paper(sure(BOOK, TWO))
        self.assertEqual(paper, ("sure", 2, (((),), ((("small", "s", 1),), (("big", "b", 1),)))))
        for standing in fitting(BOOK, TWO):
            self.assertIs(shows_sure(BOOK, TWO, standing, paper), standing == Standing.none())
        # A standing below the first of a list is shown with it.
        two = Standing({("small", "s"): 1, ("big", "b"): 1})
        paper = sure_paper(sure(BOOK, TWO, two))
        self.assertEqual(paper[1], 1)
        for standing in fitting(BOOK, TWO):
            self.assertIs(shows_sure(BOOK, TWO, standing, paper), standing <= two)

    def test_very_many_lists(self):
        began = time.time()
        last = sure_paper(sure(WIDE, FULL))[2][-1]
        self.assertIs(shows_sure(WIDE, FULL, None, ("sure", 2000, (last,) * 2000)), True)
        self.assertIs(shows_sure(WIDE, FULL, None, ("sure", None, (last,) * 2000)), True)
        for at in (1, 2, 3, 1000, 1999):
            lists = (last,) * at + (((),),) + (last,) * (1999 - at)
            self.assertIs(shows_sure(WIDE, FULL, None, ("sure", 2000, lists)), False)
        self.assertLess(time.time() - began, 20)

    def test_books_without_kinds(self):
        paper = sure_paper(sure(Book(Cap(0)), TWO))
        self.assertEqual(paper, ("sure", None, (((),),)))
        self.assertIs(shows_sure(Book(Cap(0)), TWO, None, paper), True)


class Alike(unittest.TestCase):
    def test_ways_that_tell_the_same(self):
        """Whether a house serves, by sure, by reach, by the plan and by the limits."""
        for world, _ in worlds(116, 40, kinds="ab", bays="st", keeps=2):
            book, house = world.book, world.house
            told = [bool(sure(book, house)), bool(reach(book, house)), plan(book)(house), limits(book, house).serves()]
            self.assertEqual(told, [world.serves()] * 4)
        even = Book(Cap(3, "a", "b") & Cap(2, "b"), a=Even("s", "t", most=2), b=First(("t", 1), "s"))
        for house in House(s=4, t=4).lesser():
            self.assertIs(bool(sure(even, house)), bool(reach(even, house)))


if __name__ == "__main__":
    unittest.main()
