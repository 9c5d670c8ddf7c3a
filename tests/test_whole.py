"""The whole: from the text of a book and of a house to who is served, by each way that the document tells."""

import random
import unittest

from nextkind.along import beside, carried
from nextkind.covers import covers
from nextkind.deeds import Row
from nextkind.desk import Desk
from nextkind.halls import Hall
from nextkind.houses import House
from nextkind.lamps import Lamps
from nextkind.limits import limits
from nextkind.looker import shows_exact, shows_plan, shows_serving, shows_sure
from nextkind.papers import exact_paper, plan_paper, serving_paper, sure_paper
from nextkind.plans import plan
from nextkind.quotas import Cap
from nextkind.reach import reach
from nextkind.reader import read_book
from nextkind.standings import Standing, fitting
from nextkind.sure import sure
from nextkind.texts import book_text
from oracle import World, small_book, small_house

TEXT = "quota both both cap 2 1 small cap 1 1 big cap 2 2 big small\nkind big b\nkind small s or b"


def ways(text, house_text, kind):
    """Whether a house serves a book, or a kind of it, by each way, from their texts."""
    book, house = read_book(text), House.read(house_text)
    name = "" if kind is None else " " + kind
    desk = Desk()
    desk.run(f"house {house_text}", *text.split("\n"))
    found = {"reach": reach(book, house).refusal(kind) is None}
    found["plan"] = plan(book, kind)(house)
    found["in plan"] = house in plan(book, kind)
    found["paper"] = serving_paper(book, house, kind)[0] == "serves"
    found["looker"] = shows_serving(book, house, ("serves", tuple(one.parts for one in reach(book, house).greatest)), kind)
    found["sure"] = bool(sure(book, house, kind=kind))
    found["sure paper"] = sure_paper(sure(book, house, None, kind))[1] is None
    found["desk serves"] = desk("serves" + name) == "serves"
    found["desk sure"] = desk("sure" + name) == "always"
    if kind is None:
        found["bool"] = bool(reach(book, house))
        found["refused"] = reach(book, house).refused == ()
        found["limits"] = limits(book, house).serves()
        found["least limits"] = limits(book, house).least == ()
        found["beside"] = bool(beside(book, house, book, house))
        found["desk limits"] = desk("limits").endswith("least none")
    return found


class Whole(unittest.TestCase):
    def test_each_way_tells_the_same(self):
        source = random.Random(161)
        seen = {True: 0, False: 0}
        for _ in range(60):
            book, house = small_book(source, kinds="ab", bays="st", keeps=2), small_house(source, "stx", most=2)
            world = World(book, house)
            for kind in (None,) + book.kinds:
                told = world.serves(kind)
                found = ways(book_text(book), str(house), kind)
                self.assertEqual([way for way in found if found[way] != told], [], (book_text(book), str(house), kind))
                seen[told] += 1
        self.assertTrue(min(seen.values()) > 30, seen)

    def test_all_small_houses_of_one_book(self):
        book = read_book(TEXT)
        serving = [str(house) for house in House(b=3, s=3).lesser() if all(ways(TEXT, str(house), None).values())]
        refusing = [str(house) for house in House(b=3, s=3).lesser() if not any(ways(TEXT, str(house), None).values())]
        self.assertEqual(len(serving) + len(refusing), 16)
        self.assertEqual([str(house) for house in House(b=3, s=3).lesser() if plan(book)(house)], serving)
        self.assertEqual(serving, ["b 1 s 2", "b 1 s 3"] + [f"b {b} s {s}" if s else f"b {b}" for b in (2, 3) for s in range(4)])

    def test_papers_that_are_made_are_shown(self):
        source = random.Random(162)
        for _ in range(40):
            book, house = small_book(source, kinds="ab", bays="st", keeps=2), small_house(source, "stx", most=2)
            self.assertIs(shows_exact(book, house, exact_paper(book, house)), True)
            for kind in (None,) + book.kinds:
                self.assertIs(shows_serving(book, house, serving_paper(book, house, kind), kind), True)
                self.assertIs(shows_plan(book, plan_paper(book, kind), kind), True)
                for standing in list(fitting(book, house))[::5]:
                    self.assertIs(shows_sure(book, house, standing, sure_paper(sure(book, house, standing, kind)), kind), True)


class Facts(unittest.TestCase):
    def test_more_places_never_hurt(self):
        source = random.Random(163)
        for _ in range(60):
            book, house = small_book(source), small_house(source, most=2)
            more = house + House(**{source.choice("stu"): 1})
            for kind in (None,) + book.kinds:
                if sure(book, house, None, kind):
                    self.assertTrue(sure(book, more, None, kind))
                    self.assertTrue(plan(book, kind)(more))
            self.assertTrue(set(reach(book, more).refused) <= set(reach(book, house).refused))
            # So each limit that the smaller house serves is served by the larger one.
            for row in limits(book, house).greatest:
                self.assertTrue(limits(book, more).serves(**dict(zip(book.kinds, row))))

    def test_more_places_can_hurt_along_one_row(self):
        book = read_book("quota both both cap 1 1 a cap 1 1 c cap 1 1 e\nkind a n or s\nkind c s or m\nkind e s")
        small, large = House(m=1, s=1), House(m=1, n=1, s=1)
        found = beside(book, small, book, large)
        self.assertEqual(found.there[0], "e")
        row = Row.read("come a ; come c ; go a n")
        self.assertEqual([reach(book, small).refused, reach(book, large).refused], [("a", "e"), ("e",)])
        hall = Hall(book, small)
        hall.play(carried(book, small, "n", row, "e"))
        self.assertEqual(hall.fate("e"), ("refused",))

    def test_a_narrower_quota_never_hurts(self):
        source = random.Random(164)
        for _ in range(60):
            book, house = small_book(source), small_house(source, most=2)
            under = book.under(book.quota & Cap(source.randrange(3), *source.sample(book.kinds, 1)))
            for kind in (None,) + book.kinds:
                if reach(book, house).refusal(kind) is None:
                    self.assertIsNone(reach(under, house).refusal(kind))
            self.assertIs(bool(covers(under, book)), True)

    def test_what_comes_about_is_closed_downwards(self):
        source = random.Random(165)
        for _ in range(30):
            book, house = small_book(source), small_house(source, most=2)
            reached = reach(book, house)
            for one in reached:
                self.assertTrue(all(one.without_one(*pair) in reached for pair in one))

    def test_enough_does_the_same_rows(self):
        source = random.Random(166)
        for _ in range(40):
            book = small_book(source, kinds="ab", bays="st", keeps=2)
            more = book.enough + House(s=source.randrange(3), t=10 ** 40, x=1)
            self.assertEqual([str(one) for one in reach(book, book.enough)], [str(one) for one in reach(book, more)])
            self.assertEqual([row.parts for row in reach(book, book.enough).rows(3)], [row.parts for row in reach(book, more).rows(3)])
            self.assertEqual(limits(book, book.enough).greatest, limits(book, more).greatest)
            self.assertEqual(sure(book, book.enough).comings, sure(book, more).comings)

    def test_what_may_stand_comes_about(self):
        source = random.Random(167)
        for _ in range(30):
            book, house = small_book(source), small_house(source, most=2)
            reached, lamps = reach(book, house), Lamps(book, house)
            for bay in book.bays * 2:
                try:
                    lamps.change(bay)
                except ValueError:
                    continue
                self.assertTrue(all(one in reached for one in lamps.standings))
                self.assertTrue(all(len(lamps.row_to(one)) >= len(reached.row_to(one)) for one in lamps.standings))

    def test_joint_standings_are_standings_of_both(self):
        source = random.Random(168)
        for _ in range(40):
            book, house, more = small_book(source, kinds="ab"), small_house(source, most=2), small_house(source, most=2)
            try:
                found = beside(book, house, book, more)
            except ValueError:
                continue
            for parts in found.greatest:
                here, there = Standing({}), Standing({})
                for kind, bay, spot, number in parts:
                    here = here + Standing({(kind, bay): number})
                    there = there + Standing({(kind, spot): number})
                self.assertTrue(here in reach(book, house) and there in reach(book, more))


if __name__ == "__main__":
    unittest.main()
