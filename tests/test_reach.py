"""Reach: what comes about, the rows that lead there, who is refused, and all rows of some deeds."""

import inspect
import itertools
import random
import time
import unittest

from helpers import DEEP, GREAT, LONG, NO_NAMES, NO_OBJECTS, check_error
from nextkind.books import Book
from nextkind.deeds import Come, Row
from nextkind.halls import Hall
from nextkind.houses import House
from nextkind.pairs import Pair
from nextkind.quotas import Cap
from nextkind.reach import reach
from nextkind.rules import First
from nextkind.standings import Standing, fitting
from oracle import small_worlds

QUOTA = Cap(2, "small") & Cap(1, "big") & Cap(2, "small", "big")
BOOK = Book(QUOTA, small=First("s", "b"), big=First("b"))
TWO = House(s=1, b=1)
WIDE = Book(Cap(12, "a") & Cap(6, "b"), a=First("s", "t", "w"), b=First("u", "v"))
FULL = House(s=4, t=4, w=4, u=3, v=3)
NO_KINDS = [value for value in NO_NAMES + NO_OBJECTS if value is not None] + ["tiny", "s", ("small",), LONG, DEEP]


class Members(unittest.TestCase):
    def test_by_the_words(self):
        refusing = 0
        for world in small_worlds(21, 250):
            reached = reach(world.book, world.house)
            came = world.came()
            standings = [standing for standing in fitting(world.book, world.house) if world.numbers(standing) in came]
            self.assertEqual(list(reached), standings)
            self.assertEqual(len(reached), len(came))
            for standing in fitting(world.book, world.house):
                self.assertIs(standing in reached, world.numbers(standing) in came)
            self.assertEqual([world.numbers(standing) for standing in reached.greatest], world.greatest())
            for numbers, row in came.items():
                self.assertEqual(reached.row_to(world.of(numbers)).parts, row)
            refused = world.refusals()
            self.assertEqual(reached.refused, tuple(sorted(refused)))
            self.assertIs(bool(reached), not refused)
            refusing += bool(refused)
            self.check_refusals(reached, world, refused)
            self.check_at_once(reached, world, came)
        self.assertTrue(60 < refusing < 190, refusing)

    def check_refusals(self, reached, world, refused):
        """Fail unless each refusal is told with its row, and behind the row it is one."""
        for kind in world.book.kinds:
            found = reached.refusal(kind)
            self.assertEqual(found if found is None else (found[0], found[1].parts), (kind, refused[kind]) if kind in refused else None)
        best = min([(len(row), kind) for kind, row in refused.items()], default=None)
        found = reached.refusal()
        if best is None:
            self.assertIsNone(found)
            return
        self.assertIsInstance(found, tuple)
        self.assertEqual((found[0], found[1].parts), (best[1], refused[best[1]]))
        hall = Hall(world.book, world.house)
        hall.play(found[1])
        self.assertEqual(hall.fate(found[0]), ("refused",))

    def check_at_once(self, reached, world, came):
        """Fail unless the greatest numbers at once are those of all that comes about."""
        standings = [world.of(numbers) for numbers in came]
        for kind in (None,) + world.book.kinds:
            for bay in (None, "s", "t", "u", "x"):
                told = max(sum(number for name, spot, number in standing.parts
                               if kind in (None, name) and bay in (None, spot)) for standing in standings)
                self.assertEqual(reached.at_once(kind, bay), told)

    def test_what_never_comes_about(self):
        reached = reach(BOOK, House(b=1, s=2))
        never = Standing({("small", "b"): 1})
        self.assertIs(never in reached, False)
        check_error(self, ("Never", ("value", never)), reached.row_to, never)
        for table in ({("big", "b"): 2}, {("small", "s"): 3}, {("small", "x"): 1}, {("tiny", "s"): 1}, {("small", "s"): GREAT},
                      {("big", "b"): 1, ("small", "s"): 1, ("tiny", "s"): 1}):
            standing = Standing(table)
            self.assertIs(standing in reached, False)
            check_error(self, ("Never", ("value", standing)), reached.row_to, standing)
        for value in NO_OBJECTS + NO_NAMES + [TWO, BOOK, reached, Row(), Pair(1, 2), ("small", "s", 1), (("small", "s", 1),), "none"]:
            if not isinstance(value, Standing) or value != Standing.none():
                self.assertIs(value in reached, False)
                check_error(self, ("Never", ("value", value)), reached.row_to, value)

    def test_equal_standings(self):
        reached = reach(BOOK, TWO)
        self.assertIs(Standing({("small", "s"): 1, ("x", "y"): 0}) in reached, True)
        self.assertIs(Standing.none() in reached, True)
        self.assertEqual([reached.row_to(Standing.none()), str(reached.row_to(standing=Standing({("small", "b"): 1})))],
                         [Row(), "come small ; come small ; go small s"])

    def test_iteration_within_an_iteration(self):
        reached = reach(book=BOOK, house=TWO)
        self.assertEqual(len([1 for one in reached for other in reached]), 36)

    def test_first_in_order_of_rows_with_the_fewest(self):
        # Four rows with three deeds lead to one of a in t: c comes ahead or behind, and goes only then.
        book = Book(Cap(1, "a") & Cap(1, "b") & Cap(1, "c"), a=First("s", "t"), b=First("s"), c=First("s"))
        self.assertEqual(str(reach(book, House(s=1, t=1)).row_to(Standing({("a", "t"): 1}))), "come b ; come a ; go b s")


class Edges(unittest.TestCase):
    def test_book_without_kinds(self):
        for house in (House(), House(s=3)):
            reached = reach(Book(Cap(0)), house)
            self.assertEqual([len(reached), list(reached), reached.greatest, reached.refused, reached.refusal(), bool(reached)],
                             [1, [Standing.none()], (Standing.none(),), (), None, True])
            self.assertEqual([reached.at_once(), reached.at_once(None, "s"), list(reached.rows(0)), list(reached.rows(1))],
                             [0, 0, [Row()], []])
            check_error(self, ("NoKind", ("kind", "a")), reached.refusal, "a")

    def test_rule_without_picks(self):
        reached = reach(Book(Cap(2, "a") & Cap(1, "b"), a=First(), b=First("s")), House(s=2))
        self.assertEqual([reached.refused, reached.refusal(), reached.refusal("b"), len(reached)],
                         [("a",), ("a", Row()), None, 2])

    def test_quota_of_nothing(self):
        # Of a nothing is ever let, so it is never refused, whatever its rule.
        book = Book(Cap(0, "a") & Cap(1, "b"), a=First(), b=First("s"))
        self.assertEqual([bool(reach(book, House(s=1))), reach(book, House()).refused], [True, ("b",)])
        reached = reach(Book(Cap(0, "a", "b"), a=First(), b=First("s")), House())
        self.assertEqual([bool(reached), len(reached), list(reached.rows(3)), list(reached.rows(0))], [True, 1, [], [Row()]])

    def test_fewest_deeds_and_then_the_least_kind(self):
        book = Book(Cap(1, "a", "z") & Cap(2, "b") & Cap(1, "c"), a=First("t"), b=First("s"), c=First("t"), z=First("t"))
        reached = reach(book, House(s=1))
        self.assertEqual([reached.refused, reached.refusal()], [("a", "b", "c", "z"), ("a", Row())])
        self.assertEqual(reached.refusal("b"), ("b", Row(Come("b"))))
        late = reach(Book(Cap(2, "b") & Cap(1, "z"), b=First("s"), z=First("t")), House(s=1))
        self.assertEqual([late.refused, late.refusal(), late.refusal(kind="b")], [("b", "z"), ("z", Row()), ("b", Row(Come("b")))])

    def test_great_houses(self):
        book = Book(Cap(3, "a") & Cap(2, "b"), a=First(("s", 9), "t"), b=First("t", "s"))
        told = [str(standing) for standing in reach(book, House(s=12, t=5))]
        self.assertEqual([str(standing) for standing in reach(book, House(s=GREAT, t=GREAT, x=GREAT))], told)
        self.assertIs(bool(reach(book, House(s=GREAT, t=2))), True)

    def test_house_with_other_bays(self):
        self.assertEqual(list(reach(BOOK, House(s=1, b=1, a=5, z=GREAT))), list(reach(BOOK, TWO)))

    def test_no_kind(self):
        reached = reach(BOOK, TWO)
        for value in NO_KINDS:
            check_error(self, ("NoKind", ("kind", value)), reached.refusal, value)
            check_error(self, ("NoKind", ("kind", value)), reached.at_once, value)
            check_error(self, ("NoKind", ("kind", value)), reached.at_once, value, value)
            check_error(self, ("NoKind", ("kind", value)), reached.at_once, value, "x")

    def test_at_once_in_any_bay(self):
        reached = reach(BOOK, TWO)
        for value in NO_NAMES + NO_OBJECTS + ["x", "big", TWO, reached]:
            if value is not None:
                self.assertEqual([reached.at_once(None, value), reached.at_once("big", value), reached.at_once(bay=value)], [0, 0, 0])
        self.assertEqual([reached.at_once(), reached.at_once("small"), reached.at_once(kind="big"), reached.at_once(bay="b"),
                          reached.at_once("big", "s"), reached.at_once("small", "s"), reached.at_once(None, None)],
                         [2, 2, 1, 1, 0, 1, 2])


class Sizes(unittest.TestCase):
    def test_two_thousand_and_more(self):
        began = time.process_time()
        reached = reach(WIDE, FULL)
        self.assertEqual([len(reached), len(list(reached)), reached.refused, reached.at_once()], [2000, 2000, (), 18])
        self.assertEqual(len(reached.row_to(reached.greatest[0])), reached.greatest[0].total)
        self.assertLess(time.process_time() - began, 10)
        many = ("TooMany", ("what", "standings"), ("most", 2000))
        for house in (FULL.put("u", 4), FULL.put("s", GREAT), House(s=9, t=9, w=9, u=9, v=9)):
            check_error(self, many, reach, WIDE, house)

    def test_those_that_never_come_about_count_too(self):
        # Things of a go to t and w just if s is full, but all that fits is counted.
        self.assertEqual(len(reach(WIDE, House(s=12, t=1, u=6, v=1))), 91)
        check_error(self, ("TooMany", ("what", "standings"), ("most", 2000)), reach, WIDE, House(s=12, t=12, w=12, u=6, v=6))


class Rows(unittest.TestCase):
    def test_by_the_words(self):
        for world in small_worlds(5, 60):
            reached = reach(world.book, world.house)
            for n in range(4):
                told = [row for row, _ in world.rows(n)]
                self.assertEqual([row.parts for row in reached.rows(n)], told)
                self.assertEqual(told, sorted(told))

    def test_none_and_one(self):
        reached = reach(BOOK, TWO)
        self.assertEqual([list(reached.rows(0)), [str(row) for row in reached.rows(n=1)]], [[Row()], ["come big", "come small"]])

    def test_generator(self):
        reached = reach(BOOK, TWO)
        self.assertTrue(inspect.isgenerator(reached.rows(1)))
        # Of the rows of 2,000 deeds there are too many to make them all.
        rows = reached.rows(2000)
        one, other = next(rows), next(rows)
        self.assertEqual([len(one), len(other), one.until(1999) == other.until(1999)], [2000, 2000, True])
        self.assertLess(one.parts, other.parts)
        self.assertEqual(str(one.until(4)), "come big ; come small ; go big b ; come big")
        for two, three in itertools.pairwise([row.parts for row in itertools.islice(reached.rows(50), 300)]):
            self.assertLess(two, three)

    def test_too_many_when_the_first_is_asked_for(self):
        many = ("TooMany", ("what", "deeds"), ("most", 2000))
        for n in (2001, 2002, GREAT):
            rows = reach(BOOK, TWO).rows(n)
            check_error(self, many, next, rows)
        check_error(self, many, next, reach(Book(Cap(0)), House()).rows(2001))
        self.assertEqual(list(reach(Book(Cap(0)), House()).rows(2000)), [])

    def test_two_at_once(self):
        reached = reach(BOOK, TWO)
        one, other = reached.rows(2), reached.rows(2)
        self.assertEqual([[row, next(other)] for row in one], [[row, row] for row in reached.rows(2)])


class NeverHurt(unittest.TestCase):
    """The facts of the document, on books and houses at random."""

    def test_closed_downwards(self):
        for world in small_worlds(31, 60):
            reached = reach(world.book, world.house)
            for standing in reached:
                for kind, bay in standing:
                    self.assertIn(standing.without_one(kind, bay), reached)

    def test_more_places(self):
        source = random.Random(32)
        for world in small_worlds(33, 250):
            refused = reach(world.book, world.house).refused
            for bay in world.book.bays:
                more = world.house.put(bay, world.house[bay] + source.randrange(1, 4))
                self.assertEqual([kind for kind in reach(world.book, more).refused if kind not in refused], [])

    def test_narrower_quota(self):
        source = random.Random(34)
        for world in small_worlds(35, 250):
            refused = reach(world.book, world.house).refused
            kinds = world.book.kinds
            cap = Cap(source.randrange(3), *source.sample(kinds, source.randrange(1, len(kinds) + 1)))
            for quota in (world.book.quota & cap, cap & world.book.quota):
                narrower = reach(world.book.under(quota), world.house)
                self.assertEqual([kind for kind in narrower.refused if kind not in refused], [])

    def test_picks_behind_and_a_smaller_keep_at_the_last_one(self):
        source = random.Random(36)
        served = 0
        for world in small_worlds(37, 700, keeps=2):
            reached = reach(world.book, world.house)
            if not reached:
                continue
            served += 1
            told = [row.parts for row in reached.rows(3)]
            for kind in world.book.kinds:
                picks = world.book[kind].picks
                rules = [world.book[kind] | First((source.choice("stu"), source.randrange(2)))]
                if picks and picks[-1][1] > 0:
                    rules.append(First(*picks[:-1], (picks[-1][0], picks[-1][1] - 1)))
                for rule in rules:
                    other = reach(world.book.exchanged(kind, rule), world.house)
                    self.assertTrue(other)
                    self.assertEqual([row.parts for row in other.rows(3)], told)
                    self.assertEqual([standing.parts for standing in other.greatest],
                                     [standing.parts for standing in reached.greatest])
        self.assertGreater(served, 100)

    def test_more_than_enough(self):
        for world in small_worlds(38, 120):
            enough = world.book.enough
            for bay in world.book.bays:
                house = world.house.put(bay, enough[bay])
                more = world.house.put(bay, enough[bay] + 5)
                self.assertEqual([row.parts for row in reach(world.book, house).rows(3)],
                                 [row.parts for row in reach(world.book, more).rows(3)])
                self.assertEqual(reach(world.book, house).refused, reach(world.book, more).refused)

    def test_picks_ahead_can_hurt(self):
        book = Book(Cap(1, "a") & Cap(1, "b"), a=First("t"), b=First("s"))
        hurt = book.exchanged("a", First("s", "t"))
        self.assertEqual([reach(book, House(s=1, t=1)).refused, reach(hurt, House(s=1, t=1)).refused], [(), ("b",)])


if __name__ == "__main__":
    unittest.main()
