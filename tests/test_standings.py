"""Standings: made, asked, reckoned with, fitted, written and read."""

import itertools
import random
import re
import unittest

from helpers import (GREAT, NAMES, NO_NAMES, NO_NUMBERS, NO_OBJECTS, NUMBERS, bad_text, changed_texts, check_error,
                     longest)
from nextkind.books import Book
from nextkind.houses import House
from nextkind.quotas import Cap
from nextkind.rules import First
from nextkind.standings import Standing, fitting

PAIRS = [("a", "b"), ("a", "c"), ("b", "b"), ("c", "a")]


def some_standings(top):
    """All standings with at most top things at each of four pairs."""
    return [Standing(dict(zip(PAIRS, row))) for row in itertools.product(range(top + 1), repeat=len(PAIRS))]


def numbers(standing):
    return tuple(standing[pair] for pair in PAIRS)


NO_PAIRS = [(), ("a",), ("a", "b", "c"), "ab", "a", ("a", None), (None, "a"), ("a", "B"), ("", "a"), ("a", ""), 1, None,
            True, ("a", 1), (("a", "b"), "c"), ("a", ("b",)), ("abcdefghi", "a"), b"ab", 10 ** 79]


class Made(unittest.TestCase):
    def test_of_tables(self):
        standing = Standing({("a", "b"): 2, ("a", "a"): 0, ("b", "a"): 1})
        self.assertEqual([standing["a", "b"], standing["a", "a"], standing["b", "a"], standing["z", "z"]], [2, 0, 1, 0])
        self.assertEqual(Standing(table={}), Standing.none())
        self.assertEqual(Standing.none().parts, ())

    def test_any_order_and_zero(self):
        for row in itertools.permutations([(("b", "a"), 1), (("a", "z"), 2), (("a", "b"), 3), (("z", "z"), 0)]):
            standing = Standing(dict(row))
            self.assertEqual(standing.parts, (("a", "b", 3), ("a", "z", 2), ("b", "a", 1)))
            self.assertEqual(standing, Standing({("a", "b"): 3, ("a", "z"): 2, ("b", "a"): 1}))

    def test_names(self):
        for kind in NAMES:
            for bay in NAMES:
                self.assertEqual(Standing({(kind, bay): 1}).parts, ((kind, bay, 1),))

    def test_no_tables(self):
        for value in NO_OBJECTS + [House(a=1), Standing({}), [(("a", "b"), 1)]]:
            if not isinstance(value, dict):
                check_error(self, ("BadTable", ("value", value)), Standing, value)

    def test_wrong_keys(self):
        for value in NO_PAIRS:
            check_error(self, ("BadName", ("value", value)), Standing, {value: -1})
            check_error(self, ("BadName", ("value", value)), Standing, {("a", "b"): -1, value: 1, "zz": 2})
        for name in NO_NAMES:
            if name.__hash__ is not None:
                check_error(self, ("BadName", ("value", ("a", name))), Standing, {("a", name): 1})
                check_error(self, ("BadName", ("value", (name, "a"))), Standing, {(name, "a"): 1})

    def test_wrong_numbers(self):
        for value in NO_NUMBERS:
            check_error(self, ("BadNumber", ("value", value)), Standing, {("a", "b"): value})
            table = {("b", "a"): None, ("a", "c"): value, ("z", "z"): -1, ("a", "b"): 1}
            check_error(self, ("BadNumber", ("value", value)), Standing, table)
        for value in NUMBERS:
            self.assertEqual(Standing({("a", "b"): value})["a", "b"], value)

    def test_later_changes_mean_nothing(self):
        table = {("a", "b"): 1}
        standing = Standing(table)
        table[("a", "b")] = 5
        table[("a", "c")] = 5
        self.assertEqual(standing.parts, (("a", "b", 1),))
        counts = standing.counts
        counts["a"] = 9
        self.assertEqual(standing.counts, {"a": 1})


class Asked(unittest.TestCase):
    def test_index(self):
        standing = Standing({("a", "b"): 2})
        self.assertEqual(standing["a", "b"], 2)
        self.assertEqual(standing[("a", "b")], 2)
        for value in NO_PAIRS + NO_NAMES + [["a", "b"], ("b", "a"), (["a"], "b"), {"a": "b"}]:
            self.assertEqual(standing[value], 0)

    def test_properties(self):
        for standing in some_standings(1):
            told = dict(zip(PAIRS, numbers(standing)))
            self.assertEqual(standing.total, sum(told.values()))
            self.assertEqual(len(standing), len([pair for pair in told if told[pair]]))
            self.assertEqual(list(standing), [pair for pair in PAIRS if told[pair]])
            self.assertEqual(standing.parts, tuple((*pair, told[pair]) for pair in PAIRS if told[pair]))
            for name in "abcz":
                self.assertEqual(standing.of_kind(name), sum(told[pair] for pair in PAIRS if pair[0] == name))
                self.assertEqual(standing.in_bay(name), sum(told[pair] for pair in PAIRS if pair[1] == name))
            counts = {kind: standing.of_kind(kind) for kind in "abc" if standing.of_kind(kind)}
            self.assertEqual(list(standing.counts.items()), list(counts.items()))
            self.assertEqual(standing.taken, House(**{bay: standing.in_bay(bay) for bay in "abc"}))

    def test_great_sums(self):
        standing = Standing({("a", "b"): GREAT, ("a", "c"): GREAT, ("b", "c"): 2, ("c", "d"): GREAT, ("d", "d"): GREAT})
        self.assertEqual(standing.total, 4 * GREAT + 2)
        self.assertEqual(standing.of_kind("a"), 2 * GREAT)
        self.assertEqual(standing.in_bay(bay="c"), GREAT + 2)
        self.assertEqual(standing.counts, {"a": 2 * GREAT, "b": 2, "c": GREAT, "d": GREAT})
        check_error(self, ("BadNumber", ("value", GREAT + 2)), lambda: standing.taken)
        self.assertEqual(Standing({("a", "b"): GREAT - 1, ("b", "b"): 1}).taken, House(b=GREAT))

    def test_taken(self):
        self.assertEqual(Standing.none().taken, House())
        self.assertEqual(Standing({("b", "self"): 1, ("a", "self"): 2, ("a", "c"): 3}).taken, House.of({"self": 3, "c": 3}))
        wide = Standing({("a", "c"): GREAT, ("a", "b"): 5, ("b", "b"): GREAT, ("b", "c"): 1, ("z", "a"): GREAT})
        check_error(self, ("BadNumber", ("value", GREAT + 5)), lambda: wide.taken)
        check_error(self, ("BadNumber", ("value", 2 * GREAT)), lambda: (wide | Standing({("a", "b"): GREAT})).taken)

    def test_with_one_and_without_one(self):
        standing = Standing({("a", "b"): 1, ("b", "b"): GREAT})
        self.assertEqual(standing.with_one("a", "b").parts, (("a", "b", 2), ("b", "b", GREAT)))
        self.assertEqual(standing.with_one(kind="a", bay="a")["a", "a"], 1)
        self.assertEqual(standing.without_one("a", "b").parts, (("b", "b", GREAT),))
        self.assertEqual(standing.without_one(kind="b", bay="b")["b", "b"], GREAT - 1)
        check_error(self, ("BadNumber", ("value", GREAT + 1)), standing.with_one, "b", "b")
        check_error(self, ("NotThere", ("kind", "a"), ("bay", "c")), standing.without_one, "a", "c")
        check_error(self, ("NotThere", ("kind", "z"), ("bay", "b")), standing.without_one, "z", "b")
        self.assertEqual(standing.parts, (("a", "b", 1), ("b", "b", GREAT)))

    def test_equal(self):
        for one, other in itertools.product(some_standings(1), repeat=2):
            self.assertIs(one == other, numbers(one) == numbers(other))
            self.assertIs(one != other, numbers(one) != numbers(other))
        for value in NO_OBJECTS + [House(), {("a", "b"): 1}, (("a", "b", 1),)]:
            self.assertIs(Standing({("a", "b"): 1}) == value, False)
            self.assertIs(Standing.none() == value, False)
            self.assertIs(Standing.none() != value, True)

    def test_iteration_within_an_iteration(self):
        standing = Standing({("a", "b"): 1, ("b", "a"): 1})
        self.assertEqual(len([1 for one in standing for other in standing]), 4)


class Reckoned(unittest.TestCase):
    def test_pair_by_pair(self):
        for one, other in itertools.product(some_standings(1) + some_standings(2)[::7], repeat=2):
            x, y = numbers(one), numbers(other)
            self.assertEqual(numbers(one + other), tuple(p + q for p, q in zip(x, y)))
            self.assertEqual(numbers(one & other), tuple(min(p, q) for p, q in zip(x, y)))
            self.assertEqual(numbers(one | other), tuple(max(p, q) for p, q in zip(x, y)))
            below = all(p <= q for p, q in zip(x, y))
            self.assertEqual([one <= other, other >= one, one < other, other > one],
                             [below, below, below and x != y, below and x != y])
            lacking = [pair for pair, p, q in zip(PAIRS, x, y) if p < q]
            if lacking:
                told = ("NotThere", ("kind", lacking[0][0]), ("bay", lacking[0][1]))
                check_error(self, told, lambda: one - other)
            else:
                self.assertEqual(numbers(one - other), tuple(p - q for p, q in zip(x, y)))
            self.assertEqual((numbers(one), numbers(other)), (x, y))

    def test_no_pair_without_a_thing(self):
        one = Standing({("a", "b"): 1, ("b", "b"): 1})
        self.assertEqual(list(one - Standing({("a", "b"): 1})), [("b", "b")])
        self.assertEqual(list(one & Standing({("a", "b"): 1})), [("a", "b")])
        self.assertEqual(list(one - one), [])

    def test_great_results(self):
        one = Standing({("a", "b"): GREAT, ("a", "c"): GREAT, ("b", "a"): 1})
        check_error(self, ("BadNumber", ("value", GREAT + 3)),
                    lambda: one + Standing({("a", "c"): 2, ("a", "b"): 3}))
        check_error(self, ("BadNumber", ("value", GREAT + 2)),
                    lambda: one + Standing({("a", "c"): 2, ("b", "a"): GREAT}))
        check_error(self, ("BadNumber", ("value", GREAT + 1)), lambda: one + Standing({("b", "a"): GREAT}))
        self.assertEqual((one + Standing({("b", "a"): GREAT - 1}))["b", "a"], GREAT)


def some_book(source):
    """A book of up to three kinds and bays, with a quota that bounds its kinds."""
    kinds = source.sample("abcd", source.randrange(0, 4))
    quota = Cap(source.randrange(4), *kinds)
    for _ in range(source.randrange(3)):
        more = Cap(source.randrange(3), *source.sample("abcdx", 2))
        quota = quota & more if source.random() < 0.7 or not kinds else quota | (Cap(2, *kinds) & more)
    rules = {kind: First(*[(bay, source.randrange(2)) for bay in source.sample("stu", source.randrange(4))])
             for kind in kinds}
    return Book.of(quota, rules)


def fits(book, house, table):
    """Whether a table from pairs to numbers fits, by the words of the document."""
    things = {pair: number for pair, number in table.items() if number}
    if any(pair not in book.pairs for pair in things):
        return False
    for bay in {bay for kind, bay in things}:
        if sum(number for pair, number in things.items() if pair[1] == bay) > house[bay]:
            return False
    return {kind: sum(number for pair, number in things.items() if pair[0] == kind) for kind in book.kinds} in book.quota


class Fits(unittest.TestCase):
    def test_fits_and_fitting(self):
        source = random.Random(11)
        for _ in range(150):
            book = some_book(source)
            house = House(**{bay: source.randrange(4) for bay in "stu"})
            pairs = book.pairs
            tops = [range(4 if len(pairs) < 6 else 2) for _ in pairs]
            rows = [row for row in itertools.product(*tops)]
            told = [row for row in rows if fits(book, house, dict(zip(pairs, row)))]
            found = [tuple(standing[pair] for pair in pairs) for standing in fitting(book, house)]
            self.assertEqual(found, sorted(found))
            self.assertEqual(len(set(found)), len(found))
            self.assertEqual([row for row in found if all(number in top for number, top in zip(row, tops))], told)
            for row in source.sample(rows, min(20, len(rows))):
                self.assertIs(Standing(dict(zip(pairs, row))).fits(book=book, house=house), row in set(told))

    def test_what_does_not_fit(self):
        book = Book(Cap(2, "a") & Cap(1, "b"), a=First("s", "t"), b=First("t"))
        house = House(s=2, t=1)
        self.assertIs(Standing.none().fits(book, house), True)
        self.assertIs(Standing.none().fits(book, House()), True)
        self.assertIs(Standing({("b", "s"): 1}).fits(book, house), False)
        self.assertIs(Standing({("x", "s"): 1}).fits(book, house), False)
        self.assertIs(Standing({("a", "t"): 1, ("b", "t"): 1}).fits(book, house), False)
        self.assertIs(Standing({("a", "s"): 2, ("a", "t"): 1}).fits(book, house), False)
        self.assertIs(Standing({("a", "s"): 2, ("b", "t"): 1}).fits(book, house), True)
        self.assertIs(Standing({("a", "s"): GREAT, ("a", "t"): GREAT}).fits(book, house), False)
        great = Standing({("a", "t"): GREAT, ("b", "t"): GREAT})
        self.assertIs(great.fits(book, House(t=GREAT)), False)

    def test_left_free(self):
        standing = Standing({("a", "s"): 1, ("b", "s"): 2, ("b", "t"): 1})
        self.assertEqual(standing.left_free(House(s=4, t=1, u=7)), House(s=1, u=7))
        self.assertEqual(Standing.none().left_free(house=House(s=4)), House(s=4))
        check_error(self, ("Lacking", ("bay", "s")), standing.left_free, House(s=2, t=0))
        check_error(self, ("Lacking", ("bay", "t")), standing.left_free, House(s=3))
        check_error(self, ("Lacking", ("bay", "s")), standing.left_free, House())
        great = Standing({("a", "t"): GREAT, ("b", "t"): 1, ("b", "s"): 1})
        check_error(self, ("Lacking", ("bay", "t")), great.left_free, House(s=1, t=GREAT))
        check_error(self, ("Lacking", ("bay", "s")), great.left_free, House(t=GREAT))
        self.assertEqual(Standing({("a", "t"): GREAT}).left_free(House(t=GREAT)), House())


class Fitting(unittest.TestCase):
    def test_book_without_kinds(self):
        self.assertEqual(list(fitting(Book(Cap(0)), House(a=3))), [Standing.none()])

    def test_great_house(self):
        book = Book(Cap(2, "a"), a=First("s", "t"))
        told = [str(standing) for standing in fitting(book=book, house=House(s=GREAT, t=GREAT))]
        self.assertEqual(told, ["none", "a t 1", "a t 2", "a s 1", "a s 1 a t 1", "a s 2"])

    def test_two_thousand_and_more(self):
        many = ("TooMany", ("what", "standings"), ("most", 2000))
        quota = Cap(12, "a") & Cap(12, "b") & Cap(12, "a", "b")
        book = Book(quota, a=First(*"stuvw"), b=First(*"stuvw"))
        self.assertEqual(len(list(fitting(book, House(s=1, t=1, u=1, v=1, w=1)))), 243)
        self.assertEqual(len(list(fitting(book, House(s=3, t=1, u=1, v=1)))), 270)
        check_error(self, many, list, fitting(book, House(s=2, t=2, u=2, v=2, w=2)))
        # Of two kinds 10, 6 and 3 ways fill a bay of 3, 2 and 1 places: 10 * 10 * 6 * 3.
        self.assertEqual(len(list(fitting(book, House(s=3, t=3, u=2, v=1)))), 1800)
        book = Book(Cap(4, "a") & Cap(4, "b") & Cap(4, "c") & Cap(3, "d") & Cap(0, "e"),
                    a=First("s"), b=First("t"), c=First("u"), d=First("v"), e=First("v"))
        self.assertEqual(len(list(fitting(book, House(s=9, t=9, u=9, v=9)))), 500)
        book = Book(Cap(4, "a") & Cap(4, "b") & Cap(4, "c"), a=First("s", "v"), b=First("t"), c=First("u"))
        # Of a there are 15 ways with 4 things or less in two bays.
        self.assertEqual(len(list(fitting(book, House(s=4, t=4, u=4, v=4)))), 375)

    def test_just_two_thousand(self):
        book = Book(Cap(8, "a") & Cap(8, "b"), a=First("s", "t"), b=First("u", "v"))
        self.assertEqual(len(list(fitting(book, House(s=4, t=4, u=4, v=4)))), 625)
        book = Book(Cap(12, "a") & Cap(3, "b"), a=First("s", "t", "w"), b=First("u", "v"))
        # 5 * 5 * 5 ways of a, and 4 * 4 of b, of which 10 have 3 things or less.
        self.assertEqual(len(list(fitting(book, House(s=4, t=4, w=4, u=3, v=3)))), 1250)
        book = Book(Cap(12, "a") & Cap(6, "b"), a=First("s", "t", "w"), b=First("u", "v"))
        self.assertEqual(len(list(fitting(book, House(s=4, t=4, w=4, u=3, v=3)))), 2000)
        check_error(self, ("TooMany", ("what", "standings"), ("most", 2000)), list,
                    fitting(book, House(s=4, t=4, w=4, u=4, v=3)))

    def test_just_one_more(self):
        # 1999 standings with some of a or nothing, and as many more as things of b may stand in s.
        rules = {"a": First(*"stuvw"), "b": First("s")}
        house = House(s=2, t=3, u=5, v=5, w=5)
        book = Book.of(Cap(12, "a") & Cap(0, "b") | Cap(0, "a") & Cap(1, "b"), rules)
        self.assertEqual(len(list(fitting(book, house))), 2000)
        book = Book.of(Cap(12, "a") & Cap(0, "b") | Cap(0, "a") & Cap(2, "b"), rules)
        check_error(self, ("TooMany", ("what", "standings"), ("most", 2000)), list, fitting(book, house))
        self.assertEqual(len(list(fitting(book, house.put("s", 1)))) < 2000, True)

    def test_nothing_raised_before_the_first(self):
        book = Book(Cap(12, "a") & Cap(12, "b"), a=First(*"stuvw"), b=First(*"stuvw"))
        house = House(s=9, t=9, u=9, v=9, w=9)
        found = fitting(book, house)
        check_error(self, ("TooMany", ("what", "standings"), ("most", 2000)), next, found)
        few = fitting(book, House(s=1))
        self.assertEqual([str(next(few)), str(next(few)), str(next(few))], ["none", "b s 1", "a s 1"])
        self.assertRaises(StopIteration, next, few)


NAME = "[a-z]{1,8}"
STANDING_TEXT = re.compile(f"{NAME} {NAME} [1-9][0-9]{{0,59}}( {NAME} {NAME} [1-9][0-9]{{0,59}})*", re.ASCII)


def is_standing_text(words):
    """Whether words are the text of a standing with things, by its form and the order of its pairs."""
    pairs = list(zip(words[::3], words[1::3]))
    return STANDING_TEXT.fullmatch(" ".join(words)) is not None and pairs == sorted(set(pairs))


def standing_wrong(words):
    """The first word that cannot stand in the text of a standing, None if there is none."""
    if words == ["none"] or is_standing_text(words):
        return None

    def can_begin(some):
        # A kind alone is never refused for its order: that is told at the bay.
        if len(some) % 3 == 1 and re.fullmatch(NAME, some[-1], re.ASCII):
            return can_begin(some[:-1])
        return some == [] or is_standing_text(some) or is_standing_text(some + ["1"])

    return longest(words, can_begin)


class Texts(unittest.TestCase):
    def test_written(self):
        self.assertEqual(str(Standing.none()), "none")
        self.assertEqual(str(Standing({("b", "a"): 10, ("a", "b"): 1, ("a", "a"): 0})), "a b 1 b a 10")

    def test_read_back(self):
        standings = some_standings(1) + [Standing({(kind, bay): 3 for kind in NAMES for bay in NAMES})]
        standings += [Standing({("none", "none"): GREAT}), Standing({("zzzzzzzz", "zzzzzzzz"): 1, ("a", "zzzzzzzz"): 1})]
        for standing in standings:
            self.assertEqual(Standing.read(str(standing)), standing)
            self.assertEqual(str(Standing.read(text=str(standing))), str(standing))

    def test_no_strings(self):
        for value in NO_OBJECTS + [Standing({})]:
            if not isinstance(value, str):
                check_error(self, bad_text(0), Standing.read, value)

    def test_words_that_cannot_stand(self):
        rows = [("", 0), ("none ", 1), ("none b", 2), ("none b 0", 2), ("none 1", 1), ("none none none", 2), ("a", 1),
                ("a b", 2), ("a b 0", 2), ("a b 01", 2), ("a b 1 ", 3), ("a b 1 a", 4), ("a b 1 a b 2", 4),
                ("a c 1 a b 2", 4), ("b c 1 a d 1", 4), ("b c 1 a", 4), ("a b 1 c", 4), ("a b 1 c 1", 4), ("a b 1 c d", 5),
                ("a b 1  c d 1", 3), ("a B 1", 1), ("A b 1", 0), ("a b 1\n", 2), ("a b " + "9" * 61, 2),
                ("a b 1 A b 1", 3), ("b c 1 a B 1", 4), ("b c 1 a D", 4), ("a b 1 none", 4), (" none", 0), ("a  b 1", 1),
                ("b c 1 a d 1 c c 1", 4), ("a b 1 b a 0", 5)]
        for text, at in rows:
            check_error(self, bad_text(at), Standing.read, text)

    def test_changed_texts(self):
        source = random.Random(63)
        spare = ["none", "a", "b", "m", "z", "abcdefghi", "0", "1", "07", "-3", "", "x\n", "A", "9" * 60, "9" * 61, "or"]
        for text in ("none", "a b 1", "a b 1 a c 20 b a 3", "none none 1 or keep 2", "a b " + "8" * 60 + " c c 1"):
            for changed in changed_texts(source, text, spare):
                at = standing_wrong(changed.split(" "))
                if at is None:
                    self.assertEqual(str(Standing.read(changed)), changed)
                else:
                    check_error(self, bad_text(at), Standing.read, changed)

    def test_long_texts(self):
        names = [x + y for x in "abcdefghijklmnop" for y in "abcdefghij"]
        text = " ".join(f"{kind} {bay} 7" for kind in names[:40] for bay in names)
        self.assertEqual(str(Standing.read(text)), text)
        self.assertEqual(Standing.read(text).total, 7 * 40 * len(names))
        check_error(self, bad_text(3 * 40 * len(names) + 1), Standing.read, text + " a a 1")


if __name__ == "__main__":
    unittest.main()
