"""Deeds and rows: made, asked, put together, written and read, and made from parts."""

import itertools
import random
import re
import unittest

from helpers import (GREAT, NAMES, NO_NAMES, NO_NUMBERS, NO_OBJECTS, bad_text, changed_texts, check_error, check_texts,
                     longest)
from nextkind.deeds import Come, Deed, Go, Row
from nextkind.errors import BadDeed
from nextkind.houses import House
from nextkind.standings import Standing

ROW = Row(Come("a"), Come("b"), Go("a", "s"), Come("a"), Go("b", "t"))
MANY = ("TooMany", ("what", "deeds"), ("most", 2000))
NO_DEEDS = NO_OBJECTS + [("come", "a"), ["come", "a"], ("go", "a", "s"), "come a", House(), Standing({}), ROW, Row()]


def turns(many):
    """A list of so many deeds: a thing comes, and goes, again and again."""
    return [Come("a") if at % 2 == 0 else Go("a", "s") for at in range(many)]


class Deeds(unittest.TestCase):
    def test_of_names(self):
        for kind in NAMES:
            come = Come(kind)
            self.assertEqual([come.kind, come.parts, str(come)], [kind, ("come", kind), "come " + kind])
            self.assertIsInstance(come, Deed)
            self.assertEqual(vars(Come(kind=kind))["kind"], kind)
            self.assertFalse(hasattr(come, "bay"))
            for bay in NAMES:
                go = Go(kind, bay)
                self.assertEqual([go.kind, go.bay, go.parts, str(go)], [kind, bay, ("go", kind, bay), f"go {kind} {bay}"])
                self.assertIsInstance(go, Deed)
                self.assertEqual(Go(bay=bay, kind=kind), go)

    def test_wrong_names(self):
        for value in NO_NAMES:
            check_error(self, ("BadName", ("value", value)), Come, value)
            check_error(self, ("BadName", ("value", value)), Go, value, "s")
            check_error(self, ("BadName", ("value", value)), Go, value, None)
            check_error(self, ("BadName", ("value", value)), Go, "a", value)

    def test_equal(self):
        deeds = [Come("a"), Come("b"), Go("a", "a"), Go("a", "b"), Go("b", "a"), Come("come"), Go("come", "a")]
        for (at, one), (k, other) in itertools.product(enumerate(deeds), repeat=2):
            self.assertIs(one == other, at == k)
            self.assertIs(one != other, at != k)
        self.assertTrue(Come("abc") == Come("abc"))
        self.assertTrue(Go("abc", "s") == Go("abc", "s"))
        for value in NO_DEEDS:
            for deed in deeds:
                self.assertIs(deed == value, False)
                self.assertIs(deed != value, True)

    def test_base(self):
        one, other = Deed("come", "a"), Deed("come", "b")
        self.assertEqual([one.parts, str(one), one == Deed("come", "a"), one == other, one == 1],
                         [("come", "a"), "come a", True, False, False])

    def test_order_of_parts(self):
        """The parts of deeds stand in the order of the deeds."""
        deeds = [Come("a"), Come("zz"), Go("a", "b"), Go("a", "z"), Go("b", "a")]
        self.assertEqual([deed.parts for deed in deeds], sorted(deed.parts for deed in deeds))


class Made(unittest.TestCase):
    def test_of_deeds(self):
        deeds = [Come("a"), Go("a", "s"), Come("come")]
        for row in (Row(*deeds), Row.of(deeds), Row.of(tuple(deeds)), Row.of(deeds=deeds)):
            self.assertEqual(list(row), deeds)
            self.assertEqual(row.parts, (("come", "a"), ("go", "a", "s"), ("come", "come")))
            self.assertIsInstance(row, Row)
        for row in (Row(), Row.of([]), Row.of(())):
            self.assertEqual([len(row), row.parts, list(row), str(row), row.comings], [0, (), [], "none", 0])

    def test_wrong_deeds_at_any_place(self):
        for value in NO_DEEDS:
            for at in range(4):
                deeds = [Come("a"), Go("a", "s"), Come("b")]
                deeds.insert(at, value)
                told = ("BadDeed", ("at", at))
                check_error(self, told, Row, *deeds)
                check_error(self, told, Row.of, deeds)
                check_error(self, told, Row.of, tuple(deeds))
                check_error(self, told, Row, *deeds, None, "x")

    def test_two_thousand_deeds(self):
        row = Row(*turns(2000))
        self.assertEqual([len(row), row.comings, Row.of(turns(2000)) == row], [2000, 1000, True])
        check_error(self, MANY, Row, *turns(2001))
        check_error(self, MANY, Row.of, turns(2001))
        check_error(self, MANY, Row.of, tuple(turns(10 ** 5)))
        # What is no deed is told ahead of their number.
        check_error(self, ("BadDeed", ("at", 2001)), Row, *turns(2001), "x")
        check_error(self, ("BadDeed", ("at", 0)), Row.of, [None] + turns(2001))

    def test_later_changes_mean_nothing(self):
        deeds = [Come("a"), Come("b")]
        row = Row.of(deeds)
        deeds.append(Come("c"))
        deeds[0] = None
        self.assertEqual(row, Row(Come("a"), Come("b")))
        listed = list(row)
        listed.clear()
        self.assertEqual(len(row), 2)


class Asked(unittest.TestCase):
    def test_index(self):
        deeds = list(ROW)
        for at, deed in enumerate(deeds):
            self.assertIs(ROW[at], deed)
        for value in [-1, -5, 5, 6, 10 ** 79, -10 ** 70] + [value for value in NO_NUMBERS if not value.__class__ is int]:
            with self.assertRaises(BadDeed) as told:
                ROW[value]
            self.assertIs(told.exception.at, value)
        check_error(self, ("BadDeed", ("at", 0)), Row().__getitem__, 0)
        check_error(self, ("BadDeed", ("at", GREAT)), ROW.__getitem__, GREAT)
        check_error(self, ("BadDeed", ("at", True)), ROW.__getitem__, True)
        with self.assertRaises(BadDeed):
            ROW[1:2]

    def test_len_iteration_and_comings(self):
        self.assertEqual([len(ROW), ROW.comings, len(Row(Go("a", "s"))), Row(Go("a", "s")).comings], [5, 3, 1, 0])
        self.assertEqual([deed.parts for deed in ROW], list(ROW.parts))
        self.assertEqual(len([1 for one in ROW for other in ROW]), 25)

    def test_until(self):
        for k in range(8):
            self.assertEqual(list(ROW.until(k)), list(ROW)[:k])
        self.assertEqual([ROW.until(GREAT), ROW.until(k=1), Row().until(3)], [ROW, Row(Come("a")), Row()])
        self.assertIsInstance(ROW.until(0), Row)

    def test_put_together(self):
        for at in range(6):
            one, other = Row.of(list(ROW)[:at]), Row.of(list(ROW)[at:])
            self.assertEqual(one + other, ROW)
            self.assertEqual([len(one), len(other)], [at, 5 - at])
        self.assertEqual((Row() + Come("a")).parts, (("come", "a"),))
        self.assertEqual((Row(Come("a")) + Go("b", "s") + Come("c")).parts, (("come", "a"), ("go", "b", "s"), ("come", "c")))
        self.assertEqual(Row() + Row(), Row())
        half, full = Row.of(turns(1000)), Row.of(turns(2000))
        self.assertEqual(half + half, full)
        self.assertEqual(Row.of(turns(1999)) + Go("a", "s"), full)
        self.assertEqual([full + Row(), Row() + full], [full, full])
        for one, other in ((full, Come("a")), (full, Row(Come("a"))), (Row.of(turns(1001)), half), (full, full)):
            check_error(self, MANY, lambda: one + other)
        self.assertEqual(len(full), 2000)

    def test_equal(self):
        rows = [Row(), Row(Come("a")), Row(Come("b")), Row(Come("a"), Come("a")), Row(Go("a", "s")), Row(Go("a", "t")), ROW,
                Row(Come("a"), Go("a", "s")), Row(Go("a", "s"), Come("a"))]
        for (at, one), (k, other) in itertools.product(enumerate(rows), repeat=2):
            self.assertIs(one == other, at == k)
            self.assertIs(one != other, at != k)
        self.assertTrue(ROW == Row.of(list(ROW)))
        for value in NO_OBJECTS + [list(ROW), tuple(ROW), ROW.parts, Come("a"), House()]:
            for row in rows:
                self.assertIs(row == value, False)
                self.assertIs(row != value, True)


def some_rows(seed, many):
    """Some rows of deeds with all sorts of names."""
    source = random.Random(seed)
    rows = []
    for _ in range(many):
        deeds = []
        for _ in range(source.randrange(6)):
            kind, bay = source.choice(NAMES + ["come", "go"]), source.choice(NAMES + ["come", "go"])
            deeds.append(Come(kind) if source.random() < 0.5 else Go(kind, bay))
        rows.append(Row.of(deeds))
    return rows


NAME = "[a-z]{1,8}"
ROW_TEXT = re.compile(f"(come {NAME}|go {NAME} {NAME})( ; (come {NAME}|go {NAME} {NAME}))*", re.ASCII)


def row_wrong(words):
    """The first word that cannot stand in the text of a row, None if there is none."""
    if words == ["none"] or ROW_TEXT.fullmatch(" ".join(words)):
        return None
    if words[0] == "none":
        return 1

    def can_begin(some):
        # What can begin a text can be ended by a deed's last words.
        return some == [] or any(ROW_TEXT.fullmatch(" ".join(some + rest)) for rest in ([], ["a"], ["a", "a"], ["come", "a"]))

    return longest(words, can_begin)


class Texts(unittest.TestCase):
    def test_written_and_read_back(self):
        self.assertEqual(str(ROW), "come a ; come b ; go a s ; come a ; go b t")
        for row in some_rows(1, 200) + [Row.of(turns(2000))]:
            self.assertEqual(Row.read(str(row)), row)
            self.assertEqual(Row.read(text=str(row)).parts, row.parts)
        self.assertEqual(Row.read("none"), Row())
        self.assertEqual(Row.read("come come ; go go come ; come none ; go none none").parts,
                         (("come", "come"), ("go", "go", "come"), ("come", "none"), ("go", "none", "none")))

    def test_no_strings(self):
        for value in NO_OBJECTS + [ROW, Come("a")]:
            if not isinstance(value, str):
                check_error(self, bad_text(0), Row.read, value)

    def test_words_that_cannot_stand(self):
        rows = [("", 0), (" ", 0), ("none ", 1), ("none none", 1), ("none ; come a", 1), ("none come a", 1), ("none\n", 0),
                ("come", 1), ("come ", 1), ("come A", 1), ("come a ", 2), ("come a ;", 3), ("come a ; ", 3), ("come a ; none", 3),
                ("come a;", 1), ("come a come b", 2), ("come a s", 2), ("come ;", 1), ("go", 1), ("go a", 2), ("go a ;", 2),
                ("go a s ;", 4), ("go a s t", 3), ("go ; a", 1), ("; come a", 0), ("come a ; ; come b", 3),
                ("come a ;  come b", 3), ("Come a", 0), ("comes a", 0), ("a", 0), ("come a\n; come b", 1), ("come a ; go b", 5),
                ("come abcdefghi", 1), ("go a abcdefghi", 2), ("come a ; go a s ; come", 8)]
        for text, at in rows:
            check_error(self, bad_text(at), Row.read, text)

    def test_changed_texts(self):
        source = random.Random(5)
        spare = ["none", ";", "come", "go", "a", "zz", "abcdefghi", "", "A", "0", "1", "come\n", ";;", "or"]
        for text in ("none", "come a", "go a s", "come a ; go a s ; come b", "come none ; come go ; go come come",
                     "go go go ; come come ; go none ok"):
            check_texts(self, Row.read, row_wrong, changed_texts(source, text, spare))

    def test_long_texts(self):
        text = " ; ".join(["come a", "go a s"] * 1000)
        self.assertEqual(str(Row.read(text)), text)
        check_error(self, MANY, Row.read, text + " ; come a")
        check_error(self, MANY, Row.read, " ; ".join([text] * 20))
        # What cannot stand in the text is told ahead of what is made of it.
        check_error(self, bad_text(7003), Row.read, text + " ; go a a a")
        check_error(self, bad_text(7001), Row.read, text + " ; go")


class Parts(unittest.TestCase):
    def test_from_parts(self):
        for row in some_rows(2, 100) + [Row.of(turns(2000))]:
            self.assertEqual(Row.from_parts(row.parts), row)
            self.assertEqual(Row.from_parts(parts=row.parts).parts, row.parts)

    def test_wrong_parts(self):
        come, go = ("come", "a"), ("go", "a", "s")
        wrong = [[come], list(come), "come a", come, go, (list(come),), (("come",),), (("come", "a", "s"),), (("go", "a"),),
                 (("go", "a", "s", "t"),), (("a", "come"),), ((come,),), ("come",), ((),), (("go", "a", None),), {come: go},
                 (("Come", "a"),), (("come", ("a",)),), (("go", "a", ["s"]),), (Come("a"),), Row(), Come("a"), (None,), None]
        for value in NO_NAMES:
            wrong.extend([(("come", value),), (("go", value, "s"),), (("go", "a", value),), ((value, "a"),), ((value, "a", "s"),)])
        for value in wrong:
            check_error(self, ("BadTable", ("value", value)), Row.from_parts, value)
            if isinstance(value, tuple):
                for parts in ((come, go) + value, value + (come,), (come,) + value + (go, come)):
                    if value not in (come, go) and value != ():
                        check_error(self, ("BadTable", ("value", parts)), Row.from_parts, parts)
        for value in NO_OBJECTS:
            if value != ():
                check_error(self, ("BadTable", ("value", value)), Row.from_parts, value)

    def test_more_than_two_thousand(self):
        parts = Row.of(turns(2000)).parts
        self.assertEqual(len(Row.from_parts(parts)), 2000)
        for more in (parts + (("come", "a"),), parts + parts, parts * 50, parts + (None,)):
            check_error(self, ("BadTable", ("value", more)), Row.from_parts, more)


if __name__ == "__main__":
    unittest.main()
