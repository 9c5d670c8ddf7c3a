"""Houses: made, asked, reckoned with, written and read."""

import itertools
import random
import re
import unittest

from helpers import (GREAT, NAMES, NO_NAMES, NO_NUMBERS, NO_OBJECTS, NUMBERS, bad_text, changed_texts, check_error,
                     check_texts, longest)
from nextkind.houses import House


def some_houses(top):
    """All houses with at most top places in each of three bays."""
    return [House(a=a, b=b, c=c) for a, b, c in itertools.product(range(top + 1), repeat=3)]


def numbers(house):
    return tuple(house[bay] for bay in ("a", "b", "c"))


class Made(unittest.TestCase):
    def test_by_keywords(self):
        house = House(s=2, b=1, n=0)
        self.assertEqual([house["s"], house["b"], house["n"], house["m"]], [2, 1, 0, 0])
        self.assertEqual(house.bays, ("b", "s"))
        self.assertEqual(House().bays, ())

    def test_zero_is_the_same_as_not_told(self):
        self.assertEqual(House(a=0, b=1), House(b=1))
        self.assertEqual(House(a=0), House())
        self.assertEqual(House.of({"a": 0, "b": 1}).bays, ("b",))
        self.assertEqual(len(House(a=0)), 0)

    def test_order_means_nothing(self):
        for row in itertools.permutations([("a", 1), ("b", 2), ("z", 3)]):
            self.assertEqual(House.of(dict(row)), House(a=1, b=2, z=3))
            self.assertEqual(House(**dict(row)).bays, ("a", "b", "z"))
            self.assertEqual(list(House.of(dict(row))), ["a", "b", "z"])

    def test_of_names(self):
        for name in NAMES:
            house = House.of({name: 3})
            self.assertEqual((house[name], house.bays, name in house), (3, (name,), True))
        self.assertEqual(House.of(table={"self": 1})["self"], 1)

    def test_none(self):
        self.assertEqual(House.none(), House())
        self.assertEqual(House.none(), House.of({}))

    def test_digits(self):
        self.assertEqual(House.DIGITS, 60)
        self.assertEqual(House(a=1).DIGITS, 60)

    def test_later_changes_mean_nothing(self):
        table = {"a": 1, "b": 2}
        house = House.of(table)
        table["a"] = 9
        table["c"] = 1
        del table["b"]
        self.assertEqual(house, House(a=1, b=2))
        table = {"a": 1}
        house = House(**table)
        table["a"] = 2
        self.assertEqual(house["a"], 1)

    def test_numbers(self):
        for number in NUMBERS:
            self.assertEqual(House(a=number)["a"], number)
            self.assertEqual(House.of({"a": number})["a"], number)
        for value in NO_NUMBERS:
            told = ("BadNumber", ("value", value))
            check_error(self, told, House, a=value)
            check_error(self, told, House.of, {"a": value})
            check_error(self, told, House.none().put, "a", value)

    def test_no_names(self):
        for value in NO_NAMES:
            if isinstance(value, str):
                check_error(self, ("BadName", ("value", value)), House, **{value: 1})
            if value.__hash__ is not None and not isinstance(value, list):
                check_error(self, ("BadName", ("value", value)), House.of, {value: 1})
            check_error(self, ("BadName", ("value", value)), House(a=1).put, value, 1)
            check_error(self, ("BadName", ("value", value)), House(a=1).__getitem__, value)

    def test_no_table(self):
        for value in NO_OBJECTS + [House(a=1), [("a", 1)]]:
            if not isinstance(value, dict):
                check_error(self, ("BadTable", ("value", value)), House.of, value)

    def test_which_error_comes_first(self):
        check_error(self, ("BadName", ("value", "A")), House, B=1, A=-1, a=-1)
        check_error(self, ("BadName", ("value", "")), House, **{"b": -1, "z1": 0, "": 1})
        check_error(self, ("BadNumber", ("value", -2)), House, z=-1, c=-2, a=0)
        check_error(self, ("BadName", ("value", "B")), House.of, {"a": -1, "B": 1, "A": -1, 3: 3})
        check_error(self, ("BadName", ("value", 3)), House.of, {"a": -1, 3: 3, "A": -1})
        check_error(self, ("BadName", ("value", ("a", "b"))), House.of, {("a", "b"): 1, "B": 1})
        check_error(self, ("BadNumber", ("value", "x")), House.of, {"z": None, "b": "x", "c": -1, "a": 1})
        check_error(self, ("BadName", ("value", 1)), House().put, 1, -1)

    def test_put(self):
        house = House(a=1, b=2)
        self.assertEqual(house.put("a", 5), House(a=5, b=2))
        self.assertEqual(house.put("c", 5), House(a=1, b=2, c=5))
        self.assertEqual(house.put(bay="a", number=0), House(b=2))
        self.assertEqual(house.put("a", 0).bays, ("b",))
        self.assertEqual(house.put("self", 1)["self"], 1)
        self.assertEqual(house, House(a=1, b=2))


class Asked(unittest.TestCase):
    def test_bays_total_len(self):
        house = House(z=1, a=2, m=0)
        self.assertEqual([house.bays, house.total, len(house), list(house)], [("a", "z"), 3, 2, ["a", "z"]])
        self.assertEqual([House().bays, House().total, len(House()), list(House())], [(), 0, 0, []])
        self.assertEqual(House(a=GREAT, b=GREAT).total, 2 * GREAT)

    def test_index(self):
        house = House(a=1)
        for name in NAMES:
            self.assertEqual(house[name], 1 if name == "a" else 0)

    def test_in(self):
        house = House(a=1, b=0)
        self.assertIn("a", house)
        self.assertNotIn("b", house)
        for value in NO_NAMES:
            self.assertIs(value in house, False)

    def test_iteration_within_an_iteration(self):
        house = House(a=1, b=2, c=3)
        self.assertEqual([one + other for one in house for other in house],
                         ["aa", "ab", "ac", "ba", "bb", "bc", "ca", "cb", "cc"])

    def test_bool(self):
        self.assertIs(bool(House()), False)
        self.assertIs(bool(House(a=0)), False)
        self.assertIs(bool(House(a=1)), True)

    def test_equal(self):
        for one, other in itertools.product(some_houses(1), repeat=2):
            self.assertIs(one == other, numbers(one) == numbers(other))
            self.assertIs(one != other, numbers(one) != numbers(other))
        for value in NO_OBJECTS:
            self.assertIs(House() == value, False)
            self.assertIs(House(a=1) == value, False)
            self.assertIs(value == House(a=1), False)
            self.assertIs(House(a=1) != value, True)

    def test_returned_values_are_apart(self):
        house = House(a=1, b=2)
        listed = list(house)
        listed.append("c")
        self.assertEqual(list(house), ["a", "b"])
        self.assertIsInstance(house.bays, tuple)


class Reckoned(unittest.TestCase):
    def test_bay_by_bay(self):
        for one, other in itertools.product(some_houses(2), repeat=2):
            x, y = numbers(one), numbers(other)
            self.assertEqual(numbers(one + other), tuple(p + q for p, q in zip(x, y)))
            self.assertEqual(numbers(one & other), tuple(min(p, q) for p, q in zip(x, y)))
            self.assertEqual(numbers(one | other), tuple(max(p, q) for p, q in zip(x, y)))
            below = all(p <= q for p, q in zip(x, y))
            self.assertIs(one <= other, below)
            self.assertIs(other >= one, below)
            self.assertIs(one < other, below and x != y)
            self.assertIs(other > one, below and x != y)
            lacking = [bay for bay, p, q in zip("abc", x, y) if p < q]
            if lacking:
                check_error(self, ("Lacking", ("bay", lacking[0])), lambda: one - other)
            else:
                self.assertEqual(numbers(one - other), tuple(p - q for p, q in zip(x, y)))
            self.assertEqual((numbers(one), numbers(other)), (x, y))

    def test_no_bay_without_a_place(self):
        self.assertEqual((House(a=1, b=1) - House(a=1)).bays, ("b",))
        self.assertEqual((House(a=1, b=1) & House(b=5)).bays, ("b",))
        self.assertEqual((House(a=1, b=3) // 2).bays, ("b",))
        self.assertEqual((House(a=2, b=3) % 2).bays, ("b",))
        self.assertEqual((House(a=2) * 0).bays, ())
        self.assertEqual((0 * House(a=2)), House())

    def test_times(self):
        house = House(a=1, c=10 ** 30)
        for k in (0, 1, 2, 7, 10 ** 29):
            self.assertEqual(house * k, House(a=k, c=k * 10 ** 30))
            self.assertEqual(k * house, House(a=k, c=k * 10 ** 30))
        self.assertEqual(House() * GREAT, House())

    def test_shared_out(self):
        for k in (1, 2, 3, 10, GREAT):
            for number in (1, 2, 9, 10, 11, GREAT):
                house = House(a=number, b=1)
                self.assertEqual(house // k, House(a=number // k, b=1 // k))
                self.assertEqual(house % k, House(a=number % k, b=1 % k))

    def test_wrong_times(self):
        house = House(a=GREAT)
        for k in (-1, -10 ** 60, 10 ** 60, 10 ** 79):
            told = ("BadNumber", ("value", k))
            check_error(self, told, lambda: house * k)
            check_error(self, told, lambda: k * house)
            check_error(self, told, lambda: House() * k)
            check_error(self, told, lambda: house // k)
            check_error(self, told, lambda: house % k)
            check_error(self, told, lambda: House() // k)
        check_error(self, ("BadNumber", ("value", 0)), lambda: house // 0)
        check_error(self, ("BadNumber", ("value", 0)), lambda: house % 0)

    def test_great_results(self):
        one = House(a=GREAT - 1, b=GREAT, c=GREAT)
        check_error(self, ("BadNumber", ("value", GREAT + 1)), lambda: one + House(c=1, b=1))
        check_error(self, ("BadNumber", ("value", GREAT + 2)), lambda: one + House(c=1, b=2))
        check_error(self, ("BadNumber", ("value", GREAT + 3)), lambda: one + House(c=3))
        self.assertEqual(one + House(a=1), House(a=GREAT, b=GREAT, c=GREAT))
        check_error(self, ("BadNumber", ("value", 10 * 10 ** 59)), lambda: House(z=9 * 10 ** 59, b=10 ** 59) * 10)
        check_error(self, ("BadNumber", ("value", 10 * 10 ** 59)), lambda: 10 * House(z=9 * 10 ** 59, b=10 ** 59))
        self.assertEqual((House(a=10 ** 59) * 9)["a"], 9 * 10 ** 59)

    def test_first_lacking_bay(self):
        check_error(self, ("Lacking", ("bay", "b")), lambda: House(a=1, z=1) - House(z=2, b=1, c=5))
        check_error(self, ("Lacking", ("bay", "z")), lambda: House(a=1) - House(z=1))
        check_error(self, ("Lacking", ("bay", "a")), lambda: House() - House(a=GREAT))

    def test_not_comparable(self):
        one, other = House(a=1), House(b=1)
        self.assertEqual([one <= other, one >= other, one < other, one > other], [False] * 4)


class Lesser(unittest.TestCase):
    def test_all_ascending(self):
        for house in some_houses(2):
            found = list(house.lesser())
            tops = [range(house[bay] + 1) for bay in house.bays]
            self.assertEqual([tuple(lesser[bay] for bay in house.bays) for lesser in found],
                             list(itertools.product(*tops)))
            self.assertTrue(all(lesser <= house for lesser in found))

    def test_empty_house(self):
        self.assertEqual(list(House().lesser()), [House()])

    def test_each_when_it_is_asked_for(self):
        house = House.of({"a": GREAT, "b": 1, "self": GREAT})
        found = list(itertools.islice(house.lesser(), 1000))
        self.assertEqual(found[0], House())
        self.assertEqual(found[999], House.of({"self": 999}))
        many = House.of({x + y: 9 for x in "abcdefghij" for y in "abcdefghij"})
        found = list(itertools.islice(many.lesser(), 101))
        self.assertEqual([str(found[1]), str(found[10]), str(found[100])], ["jj 1", "ji 1", "jh 1"])

    def test_two_at_once(self):
        house = House(a=1, b=1)
        pairs = list(zip(house.lesser(), house.lesser()))
        self.assertEqual(len(pairs), 4)
        self.assertTrue(all(one == other for one, other in pairs))


NAME = "[a-z]{1,8}"
NUMBER = "[1-9][0-9]{0,59}"
HOUSE_TEXT = re.compile(f"{NAME} {NUMBER}( {NAME} {NUMBER})*", re.ASCII)


def is_house_text(words):
    """Whether words are the text of a house with places, by its form and the order of its bays."""
    bays = words[::2]
    return (HOUSE_TEXT.fullmatch(" ".join(words)) is not None and bays == sorted(set(bays)))


def house_wrong(words):
    """The first word that cannot stand in the text of a house, None if there is none."""
    if words == ["none"] or is_house_text(words):
        return None
    # A last bay above which no name stands cannot occur: the tests have no bay zzzzzzzz.
    return longest(words, lambda some: some == [] or is_house_text(some) or is_house_text(some + ["1"]))


class Texts(unittest.TestCase):
    def test_written(self):
        self.assertEqual(str(House()), "none")
        self.assertEqual(str(House(s=10, b=1, m=0)), "b 1 s 10")
        self.assertEqual(str(House(none=3)), "none 3")
        self.assertEqual(str(House(a=GREAT)), "a " + "9" * 60)

    def test_read_back(self):
        houses = some_houses(2) + [House(a=GREAT, zzzzzzzz=1), House.of({name: 5 for name in NAMES}), House(none=1)]
        for house in houses:
            self.assertEqual(House.read(str(house)), house)
            self.assertEqual(House.read(text=str(house)), house)

    def test_no_strings(self):
        for value in NO_OBJECTS + [House(a=1)]:
            if not isinstance(value, str):
                check_error(self, bad_text(0), House.read, value)

    def test_words_that_cannot_stand(self):
        rows = [("", 0), (" ", 0), ("none ", 1), (" none", 0), ("none none", 1), ("none 0", 1), ("none\n", 0), ("b", 1),
                ("b 0", 1), ("b 01", 1), ("b +1", 1), ("b -1", 1), ("b 1_0", 1), ("b 1 ", 2), ("b  1", 1), ("b 1\n", 1),
                ("b 1 b 1", 2), ("b 1 a 1", 2), ("b 1 c", 3), ("b 1 c x", 3), ("b 1 none", 3), ("b 1 a", 2),
                ("b 1\nc 1", 1), ("B 1", 0), ("abcdefghi 1", 0), ("1 b", 0), ("b 1 1", 2), ("b 1  c 1", 2), ("- 1", 0),
                ("b " + "9" * 61, 1), ("b 1 c " + "1" + "0" * 60, 3), ("none 3 b 2", 2), ("b 1.0", 1), ("zzzzzzzz 1 a", 2),
                ("none 1 none 1", 2), ("b \u0661", 1), ("b \u00b2", 1), ("\u00e9 1", 0)]
        for text, at in rows:
            check_error(self, bad_text(at), House.read, text)

    def test_changed_texts(self):
        source = random.Random(60)
        spare = ["none", "a", "b", "m", "z", "abcdefghi", "0", "1", "07", "-3", "", "x\n", "A", "9" * 60, "9" * 61, "or"]
        for text in ("none", "b 1 s 2", "a 1 m 20 n 3", "none 1 or 2", "b " + "8" * 60):
            check_texts(self, House.read, house_wrong, changed_texts(source, text, spare))

    def test_long_texts(self):
        bays = sorted({x + y + z for x in "abcdefgh" for y in "abcdefgh" for z in "abcdefgh"})
        text = " ".join(bay + " 1" for bay in bays)
        self.assertEqual(str(House.read(text)), text)
        check_error(self, bad_text(2 * len(bays)), House.read, text + " a 1")


if __name__ == "__main__":
    unittest.main()
