"""Quotas: made, joined, asked, listed, written and read."""

import itertools
import random
import unittest

from helpers import (GREAT, NAMES, NO_NAMES, NO_OBJECTS, bad_text, changed_texts, check_error)
from nextkind.pairs import Pair
from nextkind.quotas import Both, Cap, Either, Quota

ABC = "abcdefghijklmnopqrstuvwxyz"
NO_MOSTS = [None, True, False, -1, 13, 10 ** 60, 10 ** 79, "", "1", (1,), [1], (), {}, Cap(1)]


class Plain:
    """What a quota lets by the words of the document, with its text; parts are a cap's numbers or two plain ones."""

    def __init__(self, word, one, other):
        self.word, self.one, self.other = word, one, other

    def lets(self, counts):
        if self.word == "cap":
            return sum(counts.get(kind, 0) for kind in self.other) <= self.one
        told = (self.one.lets(counts), self.other.lets(counts))
        return all(told) if self.word == "both" else any(told)

    def bounds(self, kind):
        if self.word == "cap":
            return kind in self.other
        told = (self.one.bounds(kind), self.other.bounds(kind))
        return any(told) if self.word == "both" else all(told)

    def made(self):
        if self.word == "cap":
            return Cap(self.one, *self.other)
        return (Both if self.word == "both" else Either)(self.one.made(), self.other.made())

    def text(self):
        if self.word == "cap":
            return " ".join(["cap", str(self.one), str(len(self.other))] + sorted(self.other))
        return f"{self.word} {self.one.text()} {self.other.text()}"

    def caps(self):
        return [self] if self.word == "cap" else self.one.caps() + self.other.caps()


def some_plain(source, caps, top=3, kinds="abc"):
    """A plain quota with so many caps."""
    if caps == 1:
        named = [kind for kind in kinds if source.random() < 0.6]
        source.shuffle(named)
        return Plain("cap", source.randrange(top + 1), named)
    left = source.randrange(1, caps)
    word = source.choice(["both", "either", "both"])
    return Plain(word, some_plain(source, left, top, kinds), some_plain(source, caps - left, top, kinds))


class Caps(unittest.TestCase):
    def test_made(self):
        cap = Cap(2, "small", "big")
        self.assertEqual([cap.most, cap.kinds, len(cap), str(cap)], [2, ("big", "small"), 1, "cap 2 2 big small"])
        self.assertEqual(Cap(most=3).most, 3)
        for most in range(13):
            self.assertEqual(Cap(most, "a").most, most)
            self.assertTrue({"a": most} in Cap(most, "a"))
            self.assertFalse({"a": most + 1} in Cap(most, "a"))

    def test_names(self):
        for name in NAMES:
            self.assertEqual(Cap(1, name).kinds, (name,))
        self.assertEqual(Cap(1, *NAMES).kinds, tuple(sorted(NAMES)))

    def test_without_kinds(self):
        cap = Cap(0)
        self.assertEqual([cap.kinds, len(cap), str(cap), cap.listed(), cap.bounds("a")], [(), 1, "cap 0 0", ((),), False])
        for counts in ({}, {"a": 99}, {"a": GREAT, "b": 1}):
            self.assertTrue(counts in cap)

    def test_bad_most(self):
        for value in NO_MOSTS:
            check_error(self, ("BadNumber", ("value", value)), Cap, value)
            check_error(self, ("BadNumber", ("value", value)), Cap, value, "a", "a", None)

    def test_bad_names(self):
        for value in NO_NAMES:
            check_error(self, ("BadName", ("value", value)), Cap, 1, value)
            check_error(self, ("BadName", ("value", value)), Cap, 1, "a", "b", value, "a", 3)
        check_error(self, ("BadName", ("value", "a")), Cap, 12, "a", "b", "a", None)
        check_error(self, ("BadName", ("value", "b")), Cap, 0, "a", "b", "b", "a")

    def test_many_kinds(self):
        names = [x + y for x in ABC for y in ABC]
        cap = Cap(12, *names)
        self.assertEqual(cap.kinds, tuple(sorted(names)))
        self.assertTrue({"az": 6, "zz": 6} in cap)
        self.assertFalse({"az": 6, "zz": 7} in cap)


class Joints(unittest.TestCase):
    def test_classes(self):
        one, other = Cap(1, "a"), Cap(2, "b")
        self.assertIsInstance(one & other, Both)
        self.assertIsInstance(one | other, Either)
        for quota in (one & other, one | other):
            self.assertIsInstance(quota, Pair)
            self.assertEqual((quota.first, quota.second, len(quota)), (one, other, 2))

    def test_no_quotas(self):
        one = Cap(1, "a")
        for value in NO_OBJECTS + NO_NAMES:
            if isinstance(value, Quota):
                continue
            for made in (Both, Either):
                check_error(self, ("BadQuota", ("part", "first")), made, value, one)
                check_error(self, ("BadQuota", ("part", "first")), made, value, value)
                check_error(self, ("BadQuota", ("part", "second")), made, one, value)
                check_error(self, ("BadQuota", ("part", "second")), made, second=value, first=one)
            check_error(self, ("BadQuota", ("part", "second")), lambda: one & value)
            check_error(self, ("BadQuota", ("part", "second")), lambda: one | value)

    def test_twenty_caps_and_more(self):
        many = ("TooMany", ("what", "caps"), ("most", 20))
        left = right = Cap(1, "a")
        for caps in range(2, 21):
            left = left & Cap(1, "a")
            right = Cap(1, "a") | right
            self.assertEqual((len(left), len(right)), (caps, caps))
        for quota in (left, right):
            check_error(self, many, lambda: quota & Cap(0))
            check_error(self, many, lambda: Cap(0) | quota)
            check_error(self, many, Both, quota, quota)
            check_error(self, ("BadQuota", ("part", "second")), Both, quota, None)
        ten = left.first.first.first.first.first.first.first.first.first.first
        self.assertEqual(len(ten), 10)
        self.assertEqual(len(ten | ten), 20)
        check_error(self, many, Either, ten, ten & Cap(0))

    def test_what_they_let(self):
        source = random.Random(7)
        for _ in range(300):
            plain = some_plain(source, source.randrange(1, 8))
            quota = plain.made()
            self.assertEqual(len(quota), len(plain.caps()))
            self.assertEqual(str(quota), plain.text())
            self.assertEqual(quota.kinds, tuple(sorted({kind for cap in plain.caps() for kind in cap.other})))
            for kind in "abcd":
                self.assertIs(quota.bounds(kind), plain.bounds(kind))
            for row in itertools.product(range(4), repeat=3):
                counts = dict(zip("abc", row))
                self.assertIs(counts in quota, plain.lets(counts))
                self.assertIs({kind: counts[kind] for kind in counts if counts[kind]} in quota, plain.lets(counts))

    def test_great_counts(self):
        quota = Cap(12, "a") | Cap(0, "a", "b")
        self.assertTrue({"a": 12, "b": GREAT, "c": GREAT} in quota)
        self.assertFalse({"a": GREAT, "b": GREAT} in quota)

    def test_twenty_caps_let(self):
        source = random.Random(8)
        for _ in range(20):
            plain = some_plain(source, 20, 6, "abcde")
            quota = plain.made()
            for _ in range(50):
                counts = {kind: source.randrange(4) for kind in "abcde"}
                self.assertIs(counts in quota, plain.lets(counts))
            self.assertEqual(Quota.read(str(quota)), quota)


class Bounds(unittest.TestCase):
    def test_bounds(self):
        one, other = Cap(1, "a", "b"), Cap(2, "b", "c")
        for kind, told in (("a", (True, True, False)), ("b", (True, True, True)), ("c", (False, True, False)),
                           ("d", (False, False, False))):
            self.assertEqual((one.bounds(kind), (one & other).bounds(kind), (one | other).bounds(kind=kind)), told)


class Listed(unittest.TestCase):
    def test_by_going_through_all(self):
        source = random.Random(9)
        for _ in range(300):
            plain = some_plain(source, source.randrange(1, 6))
            quota = plain.made()
            kinds = [kind for kind in "abc" if plain.bounds(kind)]
            source.shuffle(kinds)
            told = tuple(row for row in itertools.product(range(4), repeat=len(kinds))
                         if plain.lets(dict(zip(kinds, row))))
            self.assertEqual(quota.listed(*kinds), told)
            fullest = tuple(row for row in told if not any(row != other and all(x <= y for x, y in zip(row, other))
                                                           for other in told))
            self.assertEqual(quota.fullest(*kinds), fullest)

    def test_without_kinds(self):
        for quota in (Cap(0), Cap(3, "a"), Cap(3, "a") & Cap(1), Cap(3, "a") | Cap(1)):
            self.assertEqual(quota.listed(), ((),))
            self.assertEqual(quota.fullest(), ((),))

    def test_order_of_the_arguments(self):
        quota = Cap(1, "a") & Cap(2, "b")
        self.assertEqual(quota.listed("a", "b"), ((0, 0), (0, 1), (0, 2), (1, 0), (1, 1), (1, 2)))
        self.assertEqual(quota.listed("b", "a"), ((0, 0), (0, 1), (1, 0), (1, 1), (2, 0), (2, 1)))
        self.assertEqual(quota.listed("b"), ((0,), (1,), (2,)))

    def test_errors_and_their_order(self):
        quota = Cap(12, "a") & Cap(12, "b") & Cap(12, "c")
        for call in (quota.listed, quota.fullest):
            for value in NO_NAMES:
                check_error(self, ("BadName", ("value", value)), call, value)
                check_error(self, ("BadName", ("value", value)), call, "zz", "a", value, "a")
            check_error(self, ("BadName", ("value", "a")), call, "zz", "a", "a", 3)
            check_error(self, ("Unlimited", ("kind", "y")), call, "a", "b", "c", "y", "x")
            check_error(self, ("Unlimited", ("kind", "x")), call, "x", "y")
            check_error(self, ("TooMany", ("what", "counts"), ("most", 500)), call, "a", "b", "c")
        check_error(self, ("Unlimited", ("kind", "b")), (Cap(1, "a") | Cap(1, "a", "b")).listed, "a", "b")

    def test_five_hundred_counts_and_more(self):
        names = [x + y for x in ABC for y in ABC]
        many = ("TooMany", ("what", "counts"), ("most", 500))
        cap = Cap(1, *names)
        self.assertEqual(len(cap.listed(*names[:499])), 500)
        self.assertEqual(len(cap.fullest(*names[:499])), 499)
        check_error(self, many, cap.listed, *names[:500])
        check_error(self, many, cap.fullest, *names[:500])
        check_error(self, many, cap.listed, *names)
        quota = Cap(4, "a") & Cap(9, "b") & Cap(9, "c")
        self.assertEqual(len(quota.listed("c", "a", "b")), 500)
        self.assertEqual(quota.fullest("c", "a", "b"), ((9, 4, 9),))
        check_error(self, many, (quota | Cap(0, "a", "b") & Cap(10, "c")).listed, "a", "b", "c")
        check_error(self, many, (Cap(12, "a", "b", "c", "d") & Cap(12, "e")).listed, "a", "b", "c", "d")

    def test_very_many_kinds_without_things(self):
        names = [x + y for x in ABC for y in ABC]
        self.assertEqual(Cap(0, *names).listed(*names), ((0,) * len(names),))
        self.assertEqual(Cap(0, *names).fullest(*names), ((0,) * len(names),))


class Equal(unittest.TestCase):
    def test_equal(self):
        self.assertTrue(Cap(2, "a", "b") == Cap(2, "b", "a"))
        self.assertFalse(Cap(2, "a", "b") != Cap(2, "b", "a"))
        unlike = [Cap(2, "a", "b"), Cap(1, "a", "b"), Cap(2, "a"), Cap(2), Cap(1), Cap(2, "ab"),
                  Cap(1) & Cap(2), Cap(2) & Cap(1), Cap(1) | Cap(2), Cap(1) & Cap(1), Cap(1) | Cap(1),
                  (Cap(1) & Cap(2)) & Cap(3), Cap(1) & (Cap(2) & Cap(3)), (Cap(1) | Cap(2)) & Cap(3)]
        for at, one in enumerate(unlike):
            for place, other in enumerate(unlike):
                self.assertIs(one == other, at == place)
                self.assertIs(one != other, at != place)
                self.assertIs(one == Quota.read(str(other)), at == place)
        for value in NO_OBJECTS + ["cap 2 2 a b"]:
            self.assertIs(Cap(2, "a", "b") == value, False)
            self.assertIs(Cap(2, "a", "b") != value, True)

    def test_equal_parts_of_joints(self):
        self.assertTrue(Cap(1, "a", "b") & Cap(2) == Cap(1, "b", "a") & Cap(2))
        self.assertTrue(Both(Cap(1), Cap(2)) == Cap(1) & Cap(2))
        self.assertFalse(Both(Cap(1), Cap(2)) == Either(Cap(1), Cap(2)))


def walk(words, at):
    """The index behind the quota that begins at an index; raises IndexError with that of the first wrong word."""
    def take(good):
        nonlocal at
        if at >= len(words) or not good(words[at]):
            raise IndexError(at)
        at += 1
        return words[at - 1]

    def is_name(word):
        return 1 <= len(word) <= 8 and all(sign in ABC for sign in word)

    def is_number(word):
        return word.isdigit() and len(word) <= 60 and str(int(word)) == word

    word = take(lambda word: word in ("cap", "both", "either"))
    if word != "cap":
        return walk(words, walk(words, at))
    take(lambda word: is_number(word) and int(word) <= 12)
    last = ""
    left = int(take(is_number))
    while left > 0:
        last = take(lambda word: is_name(word) and word > last)
        left -= 1
    return at


def quota_wrong(words):
    """The first word that cannot stand in the text of a quota, None if there is none."""
    try:
        end = walk(words, 0)
    except IndexError as error:
        return error.args[0]
    return None if end == len(words) else end


class Texts(unittest.TestCase):
    def test_written(self):
        self.assertEqual(str(Cap(2, "small") & Cap(1, "big")), "both cap 2 1 small cap 1 1 big")
        self.assertEqual(str(Cap(0) | Cap(12, "b", "a") & Cap(3)), "either cap 0 0 both cap 12 2 a b cap 3 0")
        self.assertEqual(str((Cap(0) | Cap(1)) & Cap(3)), "both either cap 0 0 cap 1 0 cap 3 0")

    def test_read_back(self):
        source = random.Random(10)
        kinds = ["cap", "both", "either", "none", "or", "a", "zzzzzzzz"]
        for _ in range(200):
            quota = some_plain(source, source.randrange(1, 21), 12, kinds).made()
            for read in (Quota.read, Cap.read, Both.read, Either.read):
                told = read(str(quota))
                self.assertEqual(told, quota)
                self.assertIs(told.__class__, quota.__class__)
                self.assertEqual(str(told), str(quota))
        self.assertEqual(Quota.read(text="cap 1 1 cap"), Cap(1, "cap"))
        self.assertEqual(Quota.read("both cap 1 1 both cap 2 1 either"), Cap(1, "both") & Cap(2, "either"))

    def test_parts_in_their_order(self):
        quota = Quota.read("both either cap 1 1 a cap 2 1 b cap 3 1 c")
        self.assertIsInstance(quota, Both)
        self.assertIsInstance(quota.first, Either)
        self.assertEqual([quota.first.first, quota.first.second, quota.second],
                         [Cap(1, "a"), Cap(2, "b"), Cap(3, "c")])

    def test_no_strings(self):
        for value in NO_OBJECTS + [Cap(1)]:
            if not isinstance(value, str):
                for read in (Quota.read, Cap.read, Both.read, Either.read):
                    check_error(self, bad_text(0), read, value)

    def test_words_that_cannot_stand(self):
        rows = [("", 0), ("cap", 1), ("cap 1", 2), ("cap 1 1", 3), ("cap 1 2 a", 4), ("cap 13 0", 1), ("cap 00 0", 1),
                ("cap 01 0", 1), ("cap -1 0", 1), ("cap 1 00", 2), ("cap 1 +1 a", 2), ("cap 1 0 a", 3), ("cap 1 1 A", 3),
                ("cap 1 1 a b", 4), ("cap 1 2 b a", 4), ("cap 1 2 a a", 4), ("cap 1 2 a  b", 4), ("cap 1 0 ", 3),
                ("both", 1), ("both cap 1 0", 4), ("both cap 1 0 cap", 5), ("both cap 1 0 cap 1 0 cap 1 0", 7),
                ("either either cap 1 0 cap 1 0", 8), ("cap 1 0\n", 2), ("cap\n1 0", 0), ("all cap 1 0", 0), ("a", 0),
                (" cap 1 0", 0), ("Cap 1 0", 0), ("cap 1 " + "9" * 60, 3), ("cap 1 " + "9" * 61, 2), ("none", 0),
                ("cap 1 " + "9" * 60 + " a b", 5), ("cap " + "1" * 60 + " 0", 1), ("cap 1 1 zzzzzzzz zzzzzzzz", 4)]
        for text, at in rows:
            self.assertEqual(quota_wrong(text.split(" ")), at, text)
            check_error(self, bad_text(at), Quota.read, text)

    def test_changed_texts(self):
        source = random.Random(62)
        spare = ["cap", "both", "either", "a", "b", "z", "0", "1", "2", "12", "13", "07", "-3", "", "x\n", "A", "none"]
        for text in ("cap 0 0", "cap 2 2 a b", "both cap 2 1 a either cap 1 0 cap 12 2 b cap",
                     "either both cap 1 1 a cap 1 1 b cap 1 2 both either"):
            for changed in changed_texts(source, text, spare):
                at = quota_wrong(changed.split(" "))
                if at is None:
                    self.assertEqual(str(Quota.read(changed)), changed)
                else:
                    check_error(self, bad_text(at), Quota.read, changed)

    def test_too_many_caps(self):
        many = ("TooMany", ("what", "caps"), ("most", 20))
        for caps, joints in ((20, 19), (21, 20), (40, 39), (1000, 999)):
            left = "both " * joints + " ".join(["cap 1 1 a"] * caps)
            right = "either cap 1 1 a " * joints + "cap 1 1 a"
            for text in (left, right):
                if caps == 20:
                    self.assertEqual(len(Quota.read(text)), 20)
                else:
                    check_error(self, many, Quota.read, text)
                    check_error(self, bad_text(len(text.split(" "))), Quota.read, text + " a")
                check_error(self, bad_text(0), Quota.read, "x" + text)

    def test_long_and_deep_texts(self):
        check_error(self, bad_text(5000), Quota.read, " ".join(["both"] * 5000))
        check_error(self, bad_text(5000), Quota.read, " ".join(["either"] * 5000 + ["a"]))
        names = [x + y for x in ABC for y in ABC]
        text = f"cap 3 {len(names)} " + " ".join(names)
        self.assertEqual(str(Quota.read(text)), text)
        check_error(self, bad_text(3 + len(names)), Quota.read, text + " zz")


if __name__ == "__main__":
    unittest.main()
