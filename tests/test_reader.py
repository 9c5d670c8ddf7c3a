"""The texts of books and their reader: each book read back, and texts changed in any place."""

import random
import time
import unittest

from helpers import DEEP, GREAT, NAMES, NO_OBJECTS, check_error
from nextkind.books import Book
from nextkind.houses import House
from nextkind.quotas import Both, Cap, Either, Quota
from nextkind.reader import read_book
from nextkind.rules import Else, Even, First, Rule
from nextkind.standings import Standing
from nextkind.texts import book_text
from oracle import small_book
from test_quotas import quota_wrong
from test_rules import rule_wrong

QUOTA = Cap(2, "small") & Cap(1, "big") & Cap(2, "small", "big")
KEPT = Book(QUOTA, small=First("s", ("b", 1)), big=First("b"))
TEXT = "quota both both cap 2 1 small cap 1 1 big cap 2 2 big small\nkind big b\nkind small s or b keep 1"


def is_name(word):
    return 1 <= len(word) <= 8 and all("a" <= sign <= "z" for sign in word)


def book_wrong(text):
    """The line and the first word of it that cannot stand in the text of a book, None if there is none."""
    last = ""
    for at, line in enumerate(text.split("\n")):
        words = line.split(" ")
        if words[0] != ("kind" if at else "quota"):
            return (at, 0)
        if at and not (len(words) > 1 and is_name(words[1]) and words[1] > last):
            return (at, 1)
        begun = 2 if at else 1
        wrong = first_wrong(rule_wrong if at else quota_wrong, words[begun:])
        if wrong is not None:
            return (at, begun + wrong)
        last = words[1] if at else ""
    return None


def first_wrong(wrong, words):
    """What cannot stand in a part of a line: without words its first one is missing."""
    return wrong(words) if words else 0


def bad_text(line, word):
    return ("BadText", ("line", line), ("word", word))


def some_lines(source, text, spare):
    """Texts made from one: lines left out, doubled, put in and exchanged, and words changed in them."""
    lines = text.split("\n")
    rows = [lines[:at] + lines[at + 1:] for at in range(len(lines))]
    rows += [lines[:at] + [lines[at]] + lines[at:] for at in range(len(lines))]
    rows += [lines[:at] + [more] + lines[at:] for at in range(len(lines) + 1) for more in ("", " ", "kind zz -", "kind a s", "quota cap 0 0")]
    rows += [lines[::-1], lines[:1] + lines[:0:-1]]
    for at, line in enumerate(lines):
        words = line.split(" ")
        for place in range(len(words) + 1):
            changed = [words[:place], words[:place] + [source.choice(spare)] + words[place:]]
            if place < len(words):
                changed += [words[:place] + words[place + 1:], words[:place] + [words[place]] + words[place:],
                            words[:place] + [source.choice(spare)] + words[place + 1:]]
                changed += [words[:place] + [words[place] + sign] + words[place + 1:] for sign in ("\n", "0", "A", " ", "\n\n")]
                changed += [words[:place] + [sign + words[place]] + words[place + 1:] for sign in ("\n", "+", "-", "0", " ")]
                other = source.randrange(len(words))
                turned = list(words)
                turned[place], turned[other] = turned[other], turned[place]
                changed.append(turned)
            rows += [lines[:at] + [" ".join(some)] + lines[at + 1:] for some in changed]
    return ["\n".join(row) for row in rows]


class Texts(unittest.TestCase):
    def test_written(self):
        self.assertEqual(book_text(KEPT), TEXT)
        self.assertEqual(book_text(Book(Cap(0))), "quota cap 0 0")
        self.assertEqual(book_text(book=Book(Cap(1, "b", "a"), b=First(), a=Even("t", "s", most=2))),
                         "quota cap 1 2 a b\nkind a t keep 1 or s keep 1 or t or s\nkind b -")

    def test_read_back(self):
        source = random.Random(141)
        for _ in range(300):
            book = small_book(source)
            found = read_book(book_text(book))
            self.assertEqual(found, book)
            self.assertEqual(book_text(found), book_text(book))
            self.assertIsInstance(found, Book)
            self.assertEqual([found.kinds, found.bays, found.pairs, found.enough], [book.kinds, book.bays, book.pairs, book.enough])

    def test_words_of_the_texts_as_names(self):
        for names in (("quota", "kind", "cap", "both", "either"), ("keep", "or", "none", "self", "kind"), tuple(NAMES[:5])):
            quota = (Cap(2, *names) & Cap(1, names[0])) | Cap(1, *names)
            rules = {kind: First((bay, 1), bay, names[0]) for kind, bay in zip(names, names[1:] + names[:1])}
            book = Book.of(quota, rules)
            self.assertEqual(read_book(book_text(book)), book)
        self.assertEqual(read_book("quota cap 1 2 kind quota\nkind kind keep keep 1 or or\nkind quota or or keep keep 9"),
                         Book.of(Cap(1, "kind", "quota"), {"kind": First(("keep", 1), "or"), "quota": First("or", ("keep", 9))}))

    def test_quotas_that_name_other_kinds(self):
        book = Book(Cap(1, "a", "b", "z") & Cap(12, "other") & Cap(0), a=First("s"))
        self.assertEqual(book_text(book), "quota both both cap 1 3 a b z cap 12 1 other cap 0 0\nkind a s")
        found = read_book(book_text(book))
        self.assertEqual([found == book, found.quota == book.quota, found.kinds], [True, True, ("a",)])

    def test_rules_that_are_no_one_form(self):
        found = read_book("quota cap 1 1 a\nkind a s or n keep 3 or s keep 2 or n keep 1 or n")
        self.assertEqual(found["a"].picks, (("s", 0), ("n", 0)))
        self.assertEqual(book_text(found), "quota cap 1 1 a\nkind a s or n")
        many = " or ".join(["s", "n"] * 500)
        self.assertEqual(str(read_book(f"quota cap 1 1 a\nkind a {many}")["a"]), "s or n")

    def test_sizes_that_can_be(self):
        caps = "both " * 19 + " ".join(["cap 1 5 a b c d e"] * 20)
        picks = " or ".join(f"{bay} keep {keep}" for keep in (3, 2, 1) for bay in "stuvw")
        text = f"quota {caps}" + "".join(f"\nkind {kind} {picks}" for kind in "abcde")
        found = read_book(text)
        self.assertEqual([len(found.quota), len(found), len(found["e"]), found.bays], [20, 5, 15, tuple("stuvw")])
        self.assertEqual(book_text(found), text)


class Wrong(unittest.TestCase):
    def check(self, text):
        """Hold one text against the words of the document; whether it could be read."""
        wrong = book_wrong(text)
        if wrong is not None:
            check_error(self, bad_text(*wrong), read_book, text)
            return False
        try:
            found = read_book(text)
        except ValueError as error:
            self.assertIn(error.__class__.__name__, ("Unlimited", "TooMany"))
            return True
        self.assertEqual(read_book(book_text(found)), found)
        return True

    def test_changed_texts(self):
        source = random.Random(142)
        spare = ["quota", "kind", "cap", "both", "either", "keep", "or", "none", "-", "", "a", "zz", "0", "1", "2", "9", "10", "13", "07", "x\n"]
        texts = [TEXT, "quota cap 0 0", "quota cap 1 2 kind quota\nkind kind keep keep 1 or or\nkind quota -",
                 "quota either cap 2 1 a both cap 1 1 b cap 1 2 a b\nkind a -\nkind b s or t keep 2 or s"]
        seen = {True: 0, False: 0}
        for text in texts + [book_text(small_book(source)) for _ in range(15)]:
            for changed in some_lines(source, text, spare):
                seen[self.check(changed)] += 1
        self.assertTrue(min(seen.values()) > 200, seen)

    def test_words_that_cannot_stand(self):
        rows = [("", 0, 0), ("\n", 0, 0), (" ", 0, 0), ("quota", 0, 1), ("quota ", 0, 1), ("cap 0 0", 0, 0), ("Quota cap 0 0", 0, 0),
                ("quota cap 0 0\n", 1, 0), ("quota cap 0 0 ", 0, 4), ("quota cap 0 0 a", 0, 4), (" quota cap 0 0", 0, 0),
                ("quota  cap 0 0", 0, 1), ("quota cap 0", 0, 3), ("quota cap 13 0", 0, 2), ("quota cap 1 2 b a", 0, 5),
                ("quota cap 1 1 a\nkind", 1, 1), ("quota cap 1 1 a\nkind a", 1, 2), ("quota cap 1 1 a\nkind a s or", 1, 4),
                ("quota cap 1 1 a\nkind a - or", 1, 3), ("quota cap 1 1 a\nkind a - ", 1, 3), ("quota cap 1 1 a\nkind a -\n", 2, 0),
                ("quota cap 1 1 a\nkind a s keep 0", 1, 4), ("quota cap 1 1 a\nkind a s keep 01", 1, 4), ("quota cap 1 1 a\nkind a s keep", 1, 4),
                ("quota cap 1 1 a\nkind a s n", 1, 3), ("quota cap 1 1 a\n\nkind a s", 1, 0), ("quota cap 1 1 a\nkind a s\nkind a s", 2, 1),
                ("quota cap 1 2 a b\nkind b s\nkind a s", 2, 1), ("quota cap 1 1 a\nquota cap 1 1 a", 1, 0), ("kind a s\nquota cap 1 1 a", 0, 0),
                ("quota cap 1 1 a\n kind a s", 1, 0), ("quota cap 1 1 a\nkind A s", 1, 1), ("quota cap 1 1 a\nkind abcdefghi s", 1, 1),
                ("quota\ncap 1 1 a", 0, 1), ("quota cap 1 1\na", 0, 4), ("quota both cap 1 1 a\nkind a s", 0, 6),
                ("quota cap 1 1 a\nkind a s\tt", 1, 2), ("quota cap 1 1 a\r\nkind a s", 0, 4)]
        for text, line, word in rows:
            self.assertEqual(book_wrong(text), (line, word), text)
            check_error(self, bad_text(line, word), read_book, text)

    def test_numbers(self):
        for number, at in (("1" * 60, None), ("1" * 61, 3), ("+1", 3), ("-0", 3), ("00", 3), ("1.0", 3), ("1_0", 3), ("\u0661", 3), ("", 3)):
            text = f"quota cap 2 {number} a"
            if at is None:
                check_error(self, bad_text(0, 5), read_book, text)
            else:
                check_error(self, bad_text(0, at), read_book, text)
        for most in ("13", "012", "-1", str(GREAT), "1" * 61, "a"):
            check_error(self, bad_text(0, 2), read_book, f"quota cap {most} 1 a")

    def test_no_strings(self):
        for value in NO_OBJECTS + [KEPT, QUOTA, House(), Standing({}), DEEP, TEXT.encode(), [TEXT], (TEXT,), {TEXT: 1}]:
            if not isinstance(value, str):
                check_error(self, bad_text(0, 0), read_book, value)
        check_error(self, bad_text(0, 0), read_book, text=None)

    def test_the_text_ahead_of_what_is_made_of_it(self):
        picks = " or ".join("abcdefghijklmnop")
        caps = "both " * 20 + " ".join(["cap 1 1 a"] * 21)
        rules = "".join(f"\nkind {kind} s" for kind in "abcdef")
        check_error(self, bad_text(7, 0), read_book, f"quota {caps}{rules}\n")
        check_error(self, bad_text(1, 2), read_book, f"quota {caps}\nkind a")
        check_error(self, bad_text(2, 2), read_book, f"quota cap 1 1 a\nkind a {picks}\nkind b ")
        # The quota, then the rules in their order, then the book.
        check_error(self, ("TooMany", ("what", "caps"), ("most", 20)), read_book, f"quota {caps}\nkind a {picks}{rules[9:]}")
        check_error(self, ("TooMany", ("what", "picks"), ("most", 15)), read_book, f"quota cap 1 1 a\nkind a {picks}{rules[9:]}")
        check_error(self, ("TooMany", ("what", "picks"), ("most", 15)), read_book, f"quota cap 1 1 a{rules}\nkind z {picks}")
        check_error(self, ("TooMany", ("what", "kinds"), ("most", 5)), read_book, f"quota cap 1 1 a{rules}")
        check_error(self, ("TooMany", ("what", "bays"), ("most", 5)), read_book, "quota cap 1 0\nkind a s or t or u\nkind b v or w or x")
        check_error(self, ("Unlimited", ("kind", "b")), read_book, "quota cap 1 1 a\nkind a s\nkind b s\nkind c s")
        check_error(self, ("TooMany", ("what", "counts"), ("most", 500)), read_book,
                    "quota both both cap 9 1 a cap 9 1 b cap 9 1 c\nkind a s\nkind b s\nkind c s")
        self.assertEqual(len(read_book("quota cap 1 5 a b c d e" + rules[:-9])), 5)

    def test_deep_joints(self):
        many = ("TooMany", ("what", "caps"), ("most", 20))
        began = time.time()
        for joints in (20, 400, 5000, 30000):
            left = "both " * joints + " ".join(["cap 1 1 a"] * (joints + 1))
            right = "either cap 1 1 a " * joints + "cap 1 1 a"
            mixed = "both either " * (joints // 2) + " ".join(["cap 1 1 a"] * (joints // 2 * 2 + 1))
            for text in (left, right, mixed):
                check_error(self, many, read_book, f"quota {text}\nkind a s")
                check_error(self, many, Quota.read, text)
                words = len(text.split(" ")) + 1
                check_error(self, bad_text(0, words), read_book, f"quota {text} a\nkind a s")
                check_error(self, bad_text(1, 2), read_book, f"quota {text}\nkind a")
                check_error(self, bad_text(0, words - 1), read_book, f"quota {text[:-2]}\nkind a s")
        for word in ("both", "either"):
            check_error(self, bad_text(0, 30001), read_book, "quota " + " ".join([word] * 30000))
        self.assertLess(time.time() - began, 30)

    def test_19_joints_are_read(self):
        for text in ("both " * 19 + " ".join(["cap 1 1 a"] * 20), "either cap 1 1 a " * 19 + "cap 1 1 a"):
            found = read_book(f"quota {text}\nkind a s")
            self.assertEqual([str(found.quota), len(found.quota)], [text, 20])
            self.assertIsInstance(found.quota, Both if text[0] == "b" else Either)

    def test_classes_alike(self):
        text = "quota cap 1 1 a\nkind a s or n"
        self.assertEqual(read_book(text), Book(Cap(1, "a"), a=Else(First("s"), First("n"))))
        self.assertEqual(read_book(text)["a"], Rule.read("s or n"))


if __name__ == "__main__":
    unittest.main()
