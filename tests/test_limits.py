"""Limits: each tuple held against what reach tells under these limits; errors, sizes, and strange values."""

import itertools
import random
import time
import unittest

from helpers import DEEP, GREAT, LONG, NO_NUMBERS, NO_OBJECTS, check_error
from nextkind.books import Book
from nextkind.halls import Hall
from nextkind.houses import House
from nextkind.limits import limits
from nextkind.quotas import Cap
from nextkind.reach import reach
from nextkind.rules import Even, First
from nextkind.standings import Standing, fitting
from oracle import small_worlds
from plain_walks import limited, limits_told

QUOTA = Cap(2, "small") & Cap(1, "big") & Cap(2, "small", "big")
BOOK = Book(QUOTA, small=First("s", "b"), big=First("b"))
TWO = House(s=1, b=1)


class Limits(unittest.TestCase):
    def test_all_tuples_by_reach(self):
        seen = {True: 0, False: 0}
        for world in small_worlds(101, 150):
            book, house = world.book, world.house
            found = limits(book, house)
            greatest, least, served = limits_told(book, house, lambda under: bool(reach(under, house)))
            self.assertEqual((found.kinds, found.greatest, found.least), (book.kinds, greatest, least), str(house))
            for row in served:
                table = dict(zip(book.kinds, row))
                self.assertIs(found.serves(**table), served[row])
                self.assertIs(found.serves_all(table), served[row])
                seen[served[row]] += 1
        self.assertTrue(min(seen.values()) > 100, seen)

    def test_by_the_words_of_the_document(self):
        for world in small_worlds(102, 25, kinds="ab"):
            greatest, least, _ = limits_told(world.book, world.house, lambda under: type(world)(under, world.house).serves())
            found = limits(world.book, world.house)
            self.assertEqual((found.greatest, found.least), (greatest, least))

    def test_greater_limits_and_kinds_not_told(self):
        source = random.Random(103)
        for world in small_worlds(104, 60):
            found = limits(world.book, world.house)
            for _ in range(8):
                table = {kind: source.choice([0, 1, 2, 3, 4, 12, 13, GREAT]) for kind in world.book.kinds if source.random() < 0.7}
                row = [min(table.get(kind, 12), 12) for kind in world.book.kinds]
                told = bool(reach(limited(world.book, row), world.house))
                self.assertIs(found.serves(**table), told)
                self.assertIs(found.serves_all(dict(reversed(list(table.items())))), told)

    def test_serves_without_limits_is_serving(self):
        for world in small_worlds(105, 60):
            found = limits(world.book, world.house)
            self.assertIs(found.serves(), world.serves())
            self.assertIs(found.serves_all({}), world.serves())

    def test_around_the_greatest_number_of_a_kind(self):
        # The quota lets 2 small ones at once, and 3 under the limit 3 are no more than 2.
        found = limits(BOOK, TWO)
        self.assertEqual([found.serves(big=1, small=number) for number in (0, 1, 2, 3, 10 ** 30, GREAT)],
                         [True, True, False, False, False, False])
        self.assertEqual([found.serves(small=2, big=number) for number in (0, 1, 2, GREAT)], [True, False, False, False])
        self.assertEqual([found.serves(small=number) for number in (1, 2)], [True, False])
        self.assertEqual([found.serves(big=0), found.serves(big=GREAT), found.serves_all({"big": 0})], [True, False, True])

    def test_numbers_that_one_quota_lets_alone(self):
        # A kind of which more are let alone than beside others: its greatest number counts.
        book = Book(Cap(3, "a", "b"), a=First("s"), b=First("s", "t"))
        found = limits(book, House(s=2, t=1))
        greatest, least, _ = limits_told(book, House(s=2, t=1), lambda under: bool(reach(under, House(s=2, t=1))))
        self.assertEqual((found.greatest, found.least), (greatest, least))
        self.assertEqual(found.least, ((1, 2), (2, 1), (3, 0)))

    def test_a_kind_that_the_quota_never_lets(self):
        book = Book(Cap(0, "a") & Cap(1, "b"), a=First(), b=First("s"))
        self.assertEqual([limits(book, House()).greatest, limits(book, House()).least], [((0, 0),), ((0, 1),)])
        self.assertEqual([limits(book, House(s=1)).greatest, limits(book, House(s=1)).least], [((0, 1),), ()])
        self.assertEqual([limits(book, House()).serves(a=5, b=0), limits(book, House()).serves(a=5)], [True, False])

    def test_nothing_serves_but_nothing(self):
        book = Book(Cap(2, "a") & Cap(2, "b"), a=First(), b=First("s"))
        found = limits(book, House(t=5))
        self.assertEqual([found.greatest, found.least], [((0, 0),), ((0, 1), (1, 0))])

    def test_everything_serves(self):
        found = limits(BOOK, House(s=2, b=10 ** 50))
        self.assertEqual([found.greatest, found.least, found.serves(), found.serves(big=GREAT, small=GREAT)], [((1, 2),), (), True, True])

    def test_book_without_kinds(self):
        for house in (House(), TWO):
            found = limits(Book(Cap(0)), house)
            self.assertEqual([found.kinds, found.greatest, found.least, found.serves(), found.serves_all({})], [(), ((),), (), True, True])
            check_error(self, ("NoKind", ("kind", "a")), found.serves, a=1)
            check_error(self, ("NoKind", ("kind", 1)), found.serves_all, {1: 1})

    def test_a_kind_called_self(self):
        book = Book.of(Cap(2, "self", "found"), {"self": First("s"), "found": First("s")})
        found = limits(book, House(s=1))
        self.assertEqual([found.serves_all({"self": 0}), found.serves_all({"self": 1, "found": 0}), found.serves(found=0)],
                         [False, True, False])

    def test_named_arguments(self):
        self.assertEqual(limits(house=TWO, book=BOOK).serves_all(table={"small": 1}), True)


class Errors(unittest.TestCase):
    def test_no_kind_ahead_of_numbers(self):
        found = limits(BOOK, TWO)
        check_error(self, ("NoKind", ("kind", "a")), found.serves, z=1, small=-1, a=None, bug=1)
        check_error(self, ("NoKind", ("kind", "A")), found.serves, **{"a": 1, "A": 1, "big": -1})
        check_error(self, ("NoKind", ("kind", "")), found.serves, **{"a": 1, "": 1, LONG: 1})
        check_error(self, ("NoKind", ("kind", "s")), found.serves, s=1, big=1)
        check_error(self, ("NoKind", ("kind", "z")), found.serves_all, {"small": -1, "z": 1, "a": 1})
        check_error(self, ("NoKind", ("kind", "a")), found.serves_all, {"a": 1, "z": 1, "small": -1})
        hall = Hall(BOOK, TWO)
        for key in (None, 1, True, 10 ** 79, "", "smal", "small ", ("small",), (), b"small", "big\n", LONG, hall):
            check_error(self, ("NoKind", ("kind", key)), found.serves_all, {"small": 1, key: 0, "bug": 0})
            check_error(self, ("NoKind", ("kind", key)), found.serves_all, {key: None})

    def test_bad_numbers(self):
        found = limits(BOOK, TWO)
        for value in NO_NUMBERS:
            check_error(self, ("BadNumber", ("value", value)), found.serves, small=value)
            check_error(self, ("BadNumber", ("value", value)), found.serves_all, {"small": -7, "big": value})
            check_error(self, ("BadNumber", ("value", value)), found.serves, small=value, big=GREAT)
        check_error(self, ("BadNumber", ("value", -2)), found.serves, small=-1, big=-2)

    def test_bad_tables(self):
        found = limits(BOOK, TWO)
        for value in [value for value in NO_OBJECTS if not isinstance(value, dict)] + [DEEP, TWO, BOOK, Standing({}), found]:
            check_error(self, ("BadTable", ("value", value)), found.serves_all, value)

    def test_nothing_is_kept_of_a_table(self):
        found = limits(BOOK, TWO)
        table = {"small": 1}
        self.assertIs(found.serves_all(table), True)
        self.assertEqual(table, {"small": 1})
        table["small"] = 2
        self.assertEqual([found.serves(), found.serves_all({"small": 1})], [False, True])


class Sizes(unittest.TestCase):
    def product(self, *numbers):
        """A book of which a kind each comes at most so often, each to a bay of its own."""
        quota = Cap(numbers[0], "a")
        for kind, number in zip("bcde", numbers[1:]):
            quota = quota & Cap(number, kind)
        return Book.of(quota, {kind: First(bay) for kind, bay in zip("abcde"[:len(numbers)], "stuvw")})

    def test_250_tuples_and_more(self):
        wide = House(s=9, t=9, u=9, v=9, w=9)
        self.assertEqual(limits(self.product(1, 4, 4, 4), wide).greatest, ((1, 4, 4, 4),))
        for numbers in ((1, 4, 4, 5), (3, 3, 3, 3), (2, 2, 2, 2, 3), (11, 11, 1)):
            check_error(self, ("TooMany", ("what", "limits"), ("most", 250)), limits, self.product(*numbers), wide)

    def test_400_standings_and_401(self):
        book = Book(Cap(12, "a") & Cap(4, "b"), a=First("s", "t", "u"), b=First("v"))
        for house in (House(s=1, t=4, u=7, v=4), House(s=3, t=3, u=4, v=9)):
            self.assertEqual(len(list(fitting(book, house))), 400)
            self.assertEqual(limits(book, house).kinds, ("a", "b"))
        book = Book(Cap(6, "a", "b") & Cap(5, "a") & Cap(5, "b"), a=First("s", "v", "t"), b=First("t", "v", "u"))
        self.assertEqual(len(list(fitting(book, House(s=4, t=4, u=6, v=1)))), 401)
        for house in (House(s=4, t=4, u=6, v=1), House(s=4, t=4, u=6, v=2), House(s=9, t=9, u=9, v=GREAT)):
            check_error(self, ("TooMany", ("what", "standings"), ("most", 400)), limits, book, house)

    def test_tuples_ahead_of_standings(self):
        book = self.product(4, 4, 4, 3)
        wide = House(s=4, t=4, u=4, v=4)
        self.assertGreater(len(list(fitting(book, wide))), 400)
        check_error(self, ("TooMany", ("what", "limits"), ("most", 250)), limits, book, wide)

    def test_time(self):
        began = time.time()
        rules = {kind: First(*[bay for bay in "stuvw"[at:] + "stuvw"[:at]][:2]) for at, kind in enumerate("abcde")}
        quota = Cap(3, *"abcde")
        for kind in "abcde":
            quota = quota & Cap(2, kind)
        book = Book.of(quota, rules)
        for places in itertools.product((1, 2, 3), repeat=2):
            house = House(s=places[0], t=places[1], u=2, v=2, w=2)
            self.assertLessEqual(len(limits(book, house).greatest), 243)
        even = Book(Cap(12, "a"), a=Even("s", "t", most=7))
        self.assertEqual(limits(even, House(s=12, t=12)).greatest, ((12,),))
        self.assertLess(time.time() - began, 20)


if __name__ == "__main__":
    unittest.main()
