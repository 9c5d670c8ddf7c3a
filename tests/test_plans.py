"""Plans: which houses serve, held against what comes about; plans joined and compared; prices, and places to spare."""

import itertools
import random
import time
import unittest

from helpers import GREAT, NO_NAMES, NO_NUMBERS, NO_OBJECTS, check_error
from nextkind.books import Book
from nextkind.houses import House
from nextkind.plans import Plan, plan
from nextkind.quotas import Cap
from nextkind.reach import reach
from nextkind.rules import First
from nextkind.standings import fitting
from oracle import below, small_book

QUOTA = Cap(2, "small") & Cap(1, "big") & Cap(2, "small", "big")
BOOK = Book(QUOTA, small=First("s", "b"), big=First("b"))
FOUND = plan(BOOK)
NEVER = Book(QUOTA, small=First(), big=First("b"))
NO_KINDS = [value for value in NO_NAMES + NO_OBJECTS if value is not None] + ["tiny", "s", ("small",), House(), BOOK]


def houses_of(book):
    """How many houses are at most enough."""
    many = 1
    for bay in book.bays:
        many *= book.enough[bay] + 1
    return many


def small_books(seed, many, most=70):
    """Some books with few houses at most enough."""
    source = random.Random(seed)
    books = []
    while len(books) < many:
        book = small_book(source, keeps=2)
        if houses_of(book) <= most:
            books.append(book)
    return books


def serves(book, house, kind):
    """Whether a house serves a book, or a kind of it, by what comes about."""
    refused = reach(book, house).refused
    return not refused if kind is None else kind not in refused


def sums(kind, bays, most):
    """The plan that asks for so many places together in some bays."""
    return plan(Book.of(Cap(most, kind), {kind: First(*bays)}))


def point(**numbers):
    """The plan with one least house."""
    found = plan(Book(Cap(0)))
    for bay, number in numbers.items():
        found = found & sums("a", [bay], number)
    return found


def some_plans(seed, many):
    """Some plans of books and kinds, with their bays."""
    plans = []
    for book in small_books(seed, many):
        plans.append(plan(book))
        plans.extend(plan(book, kind) for kind in book.kinds[:1])
    return plans


class Told(unittest.TestCase):
    def test_held_against_what_comes_about(self):
        seen = set()
        for book in small_books(41, 60):
            tops = tuple(book.enough[bay] for bay in book.bays)
            for kind in (None,) + book.kinds:
                found = plan(book, kind)
                served = {}
                for numbers in itertools.product(*[range(top + 1) for top in tops]):
                    house = House(**dict(zip(book.bays, numbers)))
                    served[numbers] = serves(book, house, kind)
                    self.assertIs(found(house), served[numbers])
                    self.assertIs(house in found, served[numbers])
                self.check_tuples(found, book, tops, served)
                seen.add((bool(found.least), bool(found.greatest), kind is None))
        self.assertEqual(len(seen), 6)

    def check_tuples(self, found, book, tops, served):
        """Fail unless the tuples told are the least that serve and the greatest that refuse."""
        yes = [numbers for numbers in served if served[numbers]]
        no = [numbers for numbers in served if not served[numbers]]
        least = [one for one in yes if not any(other != one and below(other, one) for other in yes)]
        greatest = [one for one in no if not any(other != one and below(one, other) for other in no)]
        told = [tuple(None if number == top else number for number, top in zip(one, tops)) for one in greatest]
        self.assertEqual([found.least, found.greatest], [tuple(sorted(least)), tuple(told)])
        order = [tuple(GREAT if number is None else number for number in row) for row in found.greatest]
        self.assertEqual(order, sorted(order))
        self.assertEqual(found.bays, book.bays)
        self.assertEqual([tuple(house[bay] for bay in book.bays) for house in found.least_houses], list(found.least))
        self.assertIsInstance(found.least_houses, tuple)
        self.assertIs(bool(found), bool(yes))

    def test_beyond_enough(self):
        source = random.Random(42)
        for book in small_books(43, 60):
            found = plan(book)
            for _ in range(8):
                house = House(**{bay: source.choice([0, 1, 2, 3, 5, 9, 20]) for bay in book.bays + ("x",)})
                self.assertIs(found(house), not reach(book, house).refused)
            great = House(**{bay: GREAT for bay in book.bays + ("x",)})
            self.assertIs(found(great), bool(found))

    def test_none_stands_for_any_number(self):
        for book in small_books(44, 60):
            found = plan(book)
            for numbers in found.greatest:
                for number in (0, 3, GREAT):
                    house = House(**{bay: number if told is None else told for bay, told in zip(book.bays, numbers)})
                    self.assertIs(found(house), False)
                for at, bay in enumerate(book.bays):
                    if numbers[at] is not None:
                        more = {name: GREAT if told is None else told for name, told in zip(book.bays, numbers)}
                        more[bay] += 1
                        self.assertIs(found(House(**more)), True)

    def test_in_with_any_value(self):
        for value in NO_OBJECTS + NO_NAMES + [BOOK, FOUND, (1, 2), "b 1 s 2", {"b": 1, "s": 2}, House(b=1, s=1), House()]:
            self.assertIs(value in FOUND, False)
        self.assertIs(House(b=1, s=2) in FOUND, True)
        self.assertEqual([FOUND(House(b=2, x=GREAT)), FOUND(house=House(x=GREAT, s=GREAT)), House(b=2, x=1) in FOUND],
                         [True, False, True])

    def test_by_arguments_with_names(self):
        self.assertEqual(plan(kind="small", book=BOOK).least, ((0, 2), (1, 1), (2, 0)))
        self.assertEqual(plan(BOOK, None), FOUND)
        self.assertIsInstance(FOUND, Plan)

    def test_nothing_changes_it(self):
        listed = list(FOUND.least)
        listed.clear()
        self.assertEqual([FOUND.least, FOUND.greatest], [((1, 2), (2, 0)), ((0, None), (1, 1))])


class Edges(unittest.TestCase):
    def test_book_without_kinds(self):
        found = plan(Book(Cap(0)))
        self.assertEqual([found.bays, found.least, found.greatest, found.least_houses, bool(found), found(House(x=3))],
                         [(), ((),), (), (House(),), True, True])
        self.assertEqual([found.cheapest(), found.cheapest(x=3), found.spare(House(x=3))], [(0, House())] * 2 + [("x",)])

    def test_book_without_bays(self):
        found = plan(Book(Cap(1, "a"), a=First()))
        self.assertEqual([found.bays, found.least, found.greatest, found.least_houses, bool(found), House() in found],
                         [(), (), ((),), (), False, False])
        found = plan(Book(Cap(0, "a"), a=First()))
        self.assertEqual([found.bays, found.least, found.greatest, bool(found)], [(), ((),), (), True])

    def test_nothing_serves(self):
        found = plan(NEVER)
        self.assertEqual([found.bays, found.least, found.greatest, found.least_houses, bool(found), found.cheapest(b=1)],
                         [("b",), (), ((None,),), (), False, None])
        self.assertEqual([plan(NEVER, "big").least, plan(NEVER, "big").greatest], [((1,),), ((0,),)])
        check_error(self, ("Never", ("value", House(b=9))), found.spare, House(b=9))

    def test_nothing_comes(self):
        # Of a nothing is let: in s no places are enough, and each house has enough of them.
        found = plan(Book(Cap(0, "a") & Cap(1, "b"), a=First(("s", 3)), b=First("t")))
        self.assertEqual([found.bays, found.least, found.greatest], [("s", "t"), ((0, 1),), ((None, 0),)])

    def test_no_kind_ahead_of_the_sizes(self):
        wide = Book(Cap(12, "a") & Cap(12, "b"), a=First("s", "t"), b=First("u", "v"))
        for value in NO_KINDS:
            check_error(self, ("NoKind", ("kind", value)), plan, BOOK, value)
            if value not in wide:
                check_error(self, ("NoKind", ("kind", value)), plan, wide, value)
        check_error(self, ("NoKind", ("kind", "a")), plan, Book(Cap(0)), "a")


class Sizes(unittest.TestCase):
    def test_250_houses_and_more(self):
        rules = {"a": First("s"), "b": First("t"), "c": First("u")}
        book = Book.of(Cap(4, "a") & Cap(4, "b") & Cap(9, "c"), rules)
        self.assertEqual([houses_of(book), plan(book).least, plan(book).greatest],
                         [250, ((4, 4, 9),), ((3, None, None), (None, 3, None), (None, None, 8))])
        many = ("TooMany", ("what", "houses"), ("most", 250))
        for caps, houses in (((3, 6, 8), 252), ((4, 4, 10), 275)):
            book = Book.of(Cap(caps[0], "a") & Cap(caps[1], "b") & Cap(caps[2], "c"), rules)
            self.assertEqual(houses_of(book), houses)
            check_error(self, many, plan, book)
            check_error(self, many, plan, book, "a")

    def test_400_standings_and_more(self):
        quota = Cap(4, "a") & Cap(3, "b") & Cap(4, "c") & Cap(3, "d")
        rules = {kind: First("s") for kind in "abcd"}
        book = Book.of(quota, rules)
        self.assertEqual([houses_of(book), len(list(fitting(book, book.enough))), plan(book).least], [15, 400, ((14,),)])
        many = ("TooMany", ("what", "standings"), ("most", 400))
        one_more = book.under(quota | (Cap(5, "a") & Cap(0, "b", "c", "d")))
        self.assertEqual(len(list(fitting(one_more, one_more.enough))), 401)
        check_error(self, many, plan, one_more)
        check_error(self, many, plan, one_more, "d")
        # More than 2,000 standings are too many in the same words.
        book = Book(Cap(6, *"abcde"), a=First("s"), b=First("s"), c=First("s"), d=First("s", "t"), e=First("s", "t", "u"))
        check_error(self, many, plan, Book(Cap(5, *"abcde"), a=First("s", "t"), b=First("s", "t"), c=First("s", "t"),
                                           d=First("s", "t"), e=First("s", "t")))
        # Houses are counted first.
        check_error(self, ("TooMany", ("what", "houses"), ("most", 250)), plan, book)

    def test_great_books_in_a_few_seconds(self):
        source = random.Random(45)
        rules = {kind: First(*source.sample("stuvw", 5)) for kind in "abcde"}
        began = time.process_time()
        for many in range(1, 6):
            book = Book.of(Cap(2, *"abcde"), {kind: First(*list(rules[kind])[:many]) for kind in "abcde"})
            found = plan(book)
            self.assertEqual(len(found.bays), len(book.bays))
        self.assertEqual([houses_of(book), len(list(fitting(book, book.enough)))], [243, 351])
        self.assertLess(time.process_time() - began, 10)


class Joined(unittest.TestCase):
    def check(self, found, told, bays):
        """Fail unless a plan says of all houses what is told of them, in its least and greatest ones too."""
        self.assertEqual(found.bays, bays)
        source = random.Random(46)
        for _ in range(60):
            house = House(**{bay: source.choice([0, 0, 1, 1, 2, 3, 5, GREAT]) for bay in bays + ("x",)})
            self.assertIs(found(house), told(house))
        for house in found.least_houses:
            self.assertIs(told(house), True)
            for bay in house:
                self.assertIs(told(house.put(bay, house[bay] - 1)), False)
        for numbers in found.greatest:
            house = House(**{bay: GREAT if number is None else number for bay, number in zip(bays, numbers)})
            self.assertIs(told(house), False)
            for bay, number in zip(bays, numbers):
                if number is not None:
                    self.assertIs(told(house.put(bay, number + 1)), True)
        self.assertEqual(list(found.least), sorted(set(found.least)))
        order = [tuple(GREAT if number is None else number for number in row) for row in found.greatest]
        self.assertEqual(order, sorted(set(order)))
        # What is neither at least a least one nor at most a greatest one is nothing.
        tops = [max([0] + [row[at] for row in found.least + found.greatest if row[at] is not None]) for at in range(len(bays))]
        if len(bays) < 4:
            for numbers in itertools.product(*[range(top + 2) for top in tops]):
                served = any(below(low, numbers) for low in found.least)
                self.assertIs(any(below(numbers, high) for high in order), not served)

    def test_both_and_either(self):
        plans = some_plans(47, 14)
        for one, other in itertools.product(plans, repeat=2):
            bays = tuple(sorted(set(one.bays) | set(other.bays)))
            self.check(one & other, lambda house: one(house) and other(house), bays)
            self.check(one | other, lambda house: one(house) or other(house), bays)

    def test_other_bays(self):
        one, other = sums("a", "st", 2), sums("a", "tu", 1)
        both, either = one & other, one | other
        self.assertEqual([both.bays, both.least, both.greatest],
                         [("s", "t", "u"), ((0, 2, 0), (1, 1, 0), (2, 0, 1)), ((0, 1, None), (1, 0, None), (None, 0, 0))])
        self.assertEqual([either.bays, either.least, either.greatest],
                         [("s", "t", "u"), ((0, 0, 1), (0, 1, 0), (2, 0, 0)), ((1, 0, 0),)])

    def test_with_none_and_all(self):
        none, full = plan(NEVER), plan(Book(Cap(0)))
        self.assertEqual([(FOUND & none).least, (FOUND & none).greatest, bool(FOUND & none)], [(), ((None, None),), False])
        self.assertEqual([(FOUND | none).least, (FOUND | none).greatest], [FOUND.least, FOUND.greatest])
        self.assertEqual([(FOUND & full).least, (FOUND & full).greatest], [FOUND.least, FOUND.greatest])
        self.assertEqual([(FOUND | full).least, (FOUND | full).greatest, (FOUND | full).bays], [((0, 0),), (), ("b", "s")])

    def test_order_and_equality(self):
        plans = some_plans(48, 12) + [plan(NEVER), plan(Book(Cap(0))), plan(Book(Cap(1, "a"), a=First())), FOUND]
        for one, other in itertools.product(plans, repeat=2):
            at_most = all(other(house) for house in one.least_houses)
            turned = all(one(house) for house in other.least_houses)
            self.assertEqual([one <= other, other >= one], [at_most, at_most])
            self.assertIs(one == other, at_most and turned)
            self.assertIs(one != other, not (at_most and turned))
            self.assertTrue(one & other <= one <= one | other)
            self.assertTrue((one & other == one) is (one <= other))

    def test_equal_with_other_bays(self):
        one = plan(Book(Cap(1, "a"), a=First("s")))
        other = plan(Book(Cap(1, "a") & Cap(0, "b"), a=First("s"), b=First("r", "t")))
        self.assertEqual([one.bays, other.bays, one == other, one <= other, one >= other, other == one],
                         [("s",), ("r", "s", "t"), True, True, True, True])
        for value in NO_OBJECTS + NO_NAMES + [BOOK, House(), one.least]:
            self.assertIs(one == value, False)
            self.assertIs(one != value, True)

    def test_too_many_bays(self):
        many = ("TooMany", ("what", "bays"), ("most", 5))
        one, other = sums("a", "stu", 1), sums("b", "uvw", 1)
        self.assertEqual([(one & other).bays, (one | other).bays], [tuple("stuvw")] * 2)
        for more in (sums("b", "vwx", 1), sums("b", "vwxyz", 1)):
            check_error(self, many, lambda: one & more)
            check_error(self, many, lambda: one | more)
            check_error(self, many, lambda: more & one)
        self.assertIs(one <= sums("b", "vwx", 1), False)

    def test_too_many_houses(self):
        many = ("TooMany", ("what", "houses"), ("most", 250))
        one = sums("a", "stu", 5)
        self.assertEqual([len(one.least), len(one.greatest)], [21, 15])
        self.assertEqual(len((one & sums("b", "vw", 10)).least), 231)
        for most in (11, 12):
            check_error(self, many, lambda: one & sums("b", "vw", most))
            check_error(self, many, lambda: sums("b", "vw", most) & one)
        wide = one | sums("b", "vw", 12)
        self.assertEqual([len(wide.least), len(wide.greatest)], [34, 180])
        # Here the least ones are few, and the greatest ones are too many.
        pairs = sums("a", "st", 12) & sums("a", "tu", 12) & sums("a", "su", 12)
        self.assertEqual([len(pairs.greatest), len(pairs.least) < 200], [36, True])
        check_error(self, many, lambda: pairs | sums("b", "vw", 12))
        check_error(self, many, lambda: sums("b", "vw", 12) | pairs)
        # And here the least ones of either are too many.
        check_error(self, many, lambda: (one & sums("b", "vw", 10)) | (sums("a", "stv", 5) & sums("b", "uw", 10)))
        # Bays are counted first.
        check_error(self, ("TooMany", ("what", "bays"), ("most", 5)), lambda: one & sums("b", "vwx", 5))

    def test_just_250_least_ones(self):
        wide = (sums("a", "stu", 5) & sums("b", "vw", 10)) | sums("a", "st", 12)
        for more in (point(u=12), point(v=12), point(w=12), point(t=4, v=11), point(s=4, v=11), point(u=4, v=11)):
            wide = wide | more
        self.assertEqual([len(wide.least), wide & wide == wide], [250, True])
        check_error(self, ("TooMany", ("what", "houses"), ("most", 250)), lambda: wide | point(s=4, w=11))

    def test_many_in_a_few_seconds(self):
        began = time.process_time()
        wide = sums("a", "stu", 5) & sums("b", "vw", 10)
        self.assertEqual([(wide & wide).least, (wide | wide).greatest], [wide.least, wide.greatest])
        self.assertLess(time.process_time() - began, 20)


class Prices(unittest.TestCase):
    def test_against_all_houses(self):
        source = random.Random(49)
        for found in some_plans(50, 25):
            for _ in range(5):
                prices = {bay: source.randrange(4) for bay in found.bays if source.random() < 0.8}
                told = None
                for house in found.least_houses:
                    price = sum(prices.get(bay, 0) * house[bay] for bay in house)
                    if told is None or price < told[0]:
                        told = (price, house)
                self.assertEqual([found.cheapest(**prices), found.cheapest_by(prices), found.cheapest_by(table=prices)], [told] * 3)

    def test_first_of_those_alike(self):
        self.assertEqual(FOUND.cheapest(), (0, House(b=1, s=2)))
        self.assertEqual(FOUND.cheapest(b=2, s=1), (4, House(b=1, s=2)))
        self.assertEqual(FOUND.cheapest(b=1, s=1), (2, House(b=2)))
        self.assertEqual(FOUND.cheapest(b=0, s=1), (0, House(b=2)))

    def test_other_bays_mean_nothing(self):
        self.assertEqual([FOUND.cheapest(b=2, s=1, x=9), FOUND.cheapest_by({"self": GREAT, "b": 1})],
                         [(4, House(b=1, s=2)), (1, House(b=1, s=2))])

    def test_great_prices(self):
        self.assertEqual(FOUND.cheapest(b=GREAT, s=GREAT), (2 * GREAT, House(b=2)))
        self.assertEqual(FOUND.cheapest(b=GREAT, s=GREAT // 2)[0], GREAT + GREAT // 2 * 2)
        self.assertEqual(sums("self", ["self"], 3).cheapest_by({"self": GREAT}), (3 * GREAT, House.of({"self": 3})))

    def test_errors(self):
        for found in (FOUND, plan(NEVER)):
            for value in NO_NUMBERS:
                check_error(self, ("BadNumber", ("value", value)), found.cheapest, x=value)
                check_error(self, ("BadNumber", ("value", value)), found.cheapest, s=-1, b=value, a=1)
                check_error(self, ("BadNumber", ("value", value)), found.cheapest_by, {"s": None, "b": value, "self": 0})
            for value in NO_NAMES:
                if isinstance(value, str):
                    check_error(self, ("BadName", ("value", value)), found.cheapest, **{value: 1, "b": -1, "~~": 1})
                if value.__hash__ is not None:
                    check_error(self, ("BadName", ("value", value)), found.cheapest_by, {"b": -1, value: 1, "~": 1})
            for value in NO_OBJECTS + [House(b=1)]:
                if not isinstance(value, dict):
                    check_error(self, ("BadTable", ("value", value)), found.cheapest_by, value)


class Spare(unittest.TestCase):
    def test_against_what_serves(self):
        source = random.Random(51)
        for book in small_books(52, 40):
            for kind in (None,) + book.kinds[:1]:
                found = plan(book, kind)
                for _ in range(6):
                    house = House(**{bay: source.randrange(4) for bay in book.bays + ("a", "z")})
                    if not serves(book, house, kind):
                        check_error(self, ("Never", ("value", house)), found.spare, house)
                        continue
                    told = [bay for bay in house if serves(book, house - House(**{bay: 1}), kind)]
                    self.assertEqual([found.spare(house), found.spare(house=house)], [tuple(told)] * 2)

    def test_bays_that_mean_nothing(self):
        self.assertEqual([FOUND.spare(House(a=1, b=2, z=GREAT)), FOUND.spare(House(b=2)), FOUND.spare(House(b=GREAT, s=GREAT))],
                         [("a", "z"), (), ("b", "s")])


if __name__ == "__main__":
    unittest.main()
