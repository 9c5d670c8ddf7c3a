"""The desk: each line with its answers and its errors, lines taken back, and answers held against the other modules."""

import random
import time
import unittest

from helpers import DEEP, GREAT, LONG, NAMES, NO_OBJECTS, check_error
from nextkind.books import Book
from nextkind.desk import Desk
from nextkind.errors import Barred, Refused, Shut
from nextkind.halls import Hall
from nextkind.houses import House
from nextkind.limits import limits
from nextkind.plans import plan
from nextkind.quotas import Cap
from nextkind.reach import reach
from nextkind.rules import First
from nextkind.standings import Standing
from nextkind.sure import sure
from nextkind.texts import book_text
from oracle import World, small_book, small_house
from plain_walks import limits_told, sure_row
from plain_lookers import plan_numbers
from test_houses import house_wrong
from test_quotas import quota_wrong
from test_rules import rule_wrong

SMALL = ("house b 1 s 1", "quota both both cap 2 1 small cap 1 1 big cap 2 2 big small", "kind small s or b", "kind big b")
SINGLE = ("undo", "show", "places", "things", "enough", "limits")
NAMED = ("serves", "plan", "sure")
WORDS = SINGLE + NAMED + ("house", "quota", "kind", "drop", "come", "go", "fate")


def desk_with(*lines):
    desk = Desk()
    desk.run(*lines)
    return desk


def is_name(word):
    return 1 <= len(word) <= 8 and all("a" <= sign <= "z" for sign in word)


def names_wrong(words, least, most):
    """The first word that cannot stand where so many names must stand, None if there is none."""
    for at, word in enumerate(words):
        if at >= most or not is_name(word):
            return at
    return len(words) if len(words) < least else None


def line_wrong(line):
    """The first word that cannot stand in a line of the desk, None if there is none."""
    words = line.split(" ")
    word, rest = words[0], words[1:]
    if word not in WORDS:
        return 0
    if word == "kind":
        wrong = names_wrong(rest[:1], 1, 1)
        if wrong is None:
            wrong = rule_wrong(rest[1:]) if rest[1:] else 0
            wrong = None if wrong is None else 1 + wrong
    elif word in ("house", "quota"):
        wrong = (house_wrong if word == "house" else quota_wrong)(rest) if rest else 0
    else:
        many = {"drop": (1, 1), "come": (1, 1), "fate": (1, 1), "go": (2, 2)}.get(word, (0, 1 if word in NAMED else 0))
        wrong = names_wrong(rest, *many)
    return None if wrong is None else wrong + 1


def told(desk):
    """All that a desk tells of itself."""
    return (book_text(desk.book), str(desk.house), str(desk.standing), len(desk))


class Lines(unittest.TestCase):
    def test_at_first(self):
        desk = Desk()
        self.assertEqual(desk.run("show", "places", "things", "enough", "serves", "plan", "limits", "sure", "undo"),
                         ["quota cap 0 0", "none", "none", "none", "serves", "least - greatest none", "greatest - least none", "always",
                          "nothing"])
        self.assertEqual([desk.book == Book(Cap(0)), desk.house == House(), desk.standing == Standing({}), len(desk)], [True, True, True, 0])
        for line in ("come a", "fate a", "drop a", "serves a", "plan a", "sure a"):
            check_error(self, ("NoKind", ("kind", "a")), desk.ask, line)
        check_error(self, ("NotThere", ("kind", "a"), ("bay", "b")), desk.ask, "go a b")
        check_error(self, ("Unlimited", ("kind", "a")), desk.ask, "kind a s")
        self.assertEqual(len(desk), 0)

    def test_answers(self):
        desk = desk_with(*SMALL)
        rows = [("show", "quota both both cap 2 1 small cap 1 1 big cap 2 2 big small ; kind big b ; kind small s or b"),
                ("places", "b 1 s 1"), ("things", "none"), ("enough", "b 2 s 2"), ("fate small", "goes s"), ("fate big", "goes b"),
                ("serves", "refuses big behind come small ; come small ; go small s"), ("serves small", "serves"),
                ("serves big", "refuses big behind come small ; come small ; go small s"),
                ("plan", "least 1 2 / 2 0 greatest 0 any / 1 1"), ("plan small", "least 0 2 / 1 1 / 2 0 greatest 0 1 / 1 0"),
                ("limits", "greatest 0 2 / 1 1 least 1 2"), ("sure", "2"), ("sure small", "always"), ("sure big", "2"),
                ("come small", "to s"), ("come small", "to b"), ("things", "small b 1 small s 1"), ("fate big", "barred"),
                ("sure", "0"), ("sure small", "always"), ("go small s", "ok"), ("fate big", "refused"), ("things", "small b 1"),
                ("serves small", "serves"), ("house b 1 s 2", "ok"), ("things", "none"), ("serves", "serves"), ("sure", "always"),
                ("house none", "ok"), ("places", "none"), ("serves", "refuses big behind none"), ("enough", "b 2 s 2")]
        for line, answer in rows:
            self.assertEqual(desk.ask(line), answer, line)
            self.assertIs(desk.ask(line="places").__class__, str)

    def test_each_way_to_ask(self):
        desk = Desk()
        self.assertEqual([desk("house s 2"), desk(line="places"), desk.ask("undo"), desk.run("undo"), desk.run()],
                         ["ok", "s 2", "ok", ["nothing"], []])

    def test_kinds_in_any_order(self):
        for kinds in (("big b", "small s or b"), ("small s or b", "big b")):
            desk = desk_with(SMALL[0], SMALL[1], *["kind " + text for text in kinds])
            self.assertEqual(desk.ask("show"), desk_with(*SMALL).ask("show"))
        desk = desk_with(*SMALL)
        self.assertEqual(desk.run("kind big s", "kind small -", "show"),
                         ["ok", "ok", "quota both both cap 2 1 small cap 1 1 big cap 2 2 big small ; kind big s ; kind small -"])

    def test_any_and_no_numbers(self):
        desk = desk_with("quota cap 1 1 a", "kind a -")
        self.assertEqual(desk.run("plan", "limits", "serves", "show"),
                         ["least none greatest -", "greatest 0 least 1", "refuses a behind none", "quota cap 1 1 a ; kind a -"])
        desk = desk_with("quota cap 2 1 a", "kind a s keep 1", "house s 2")
        self.assertEqual(desk.run("plan", "limits", "enough", "kind a s or t", "plan"),
                         ["least 3 greatest 2", "greatest 1 least 2", "s 3", "ok", "least 0 2 / 1 1 / 2 0 greatest 0 1 / 1 0"])
        desk = desk_with("quota cap 0 1 a", "kind a s")
        self.assertEqual(desk.run("plan", "limits", "serves", "sure"), ["least 0 greatest none", "greatest 0 least none", "serves", "always"])

    def test_words_as_names(self):
        for name in [name for name in NAMES if name != "zzzzzzzz"]:
            desk = Desk()
            answers = desk.run(f"quota cap 1 1 {name}", f"kind {name} {name}", f"house {name} 1", f"come {name}", f"fate {name}",
                               f"go {name} {name}", f"serves {name}", f"plan {name}", f"sure {name}", f"drop {name}", "show")
            self.assertEqual(answers, ["ok", "ok", "ok", f"to {name}", "barred", "ok", "serves", "least 1 greatest 0", "always", "ok",
                                       f"quota cap 1 1 {name}"])
        self.assertEqual(Desk().run("house none 3", "places", "house none", "places"), ["ok", "none 3", "ok", "none"])

    def test_the_same_one_empties_the_hall(self):
        for line in (SMALL[0], SMALL[1], SMALL[3], "kind small s or b"):
            desk = desk_with(*SMALL, "come small")
            self.assertEqual(desk.run("things", line, "things", "undo", "things"), ["small s 1", "ok", "none", "ok", "small s 1"])

    def test_great_numbers(self):
        desk = desk_with(*SMALL)
        self.assertEqual(desk.run(f"house b {GREAT} s {GREAT}", "serves", "places"), ["ok", "serves", f"b {GREAT} s {GREAT}"])

    def test_two_desks(self):
        one, other = desk_with(*SMALL), Desk()
        self.assertEqual([one.ask("places"), other.ask("places")], ["b 1 s 1", "none"])


class Undo(unittest.TestCase):
    def test_each_kind_of_line(self):
        for line in ("house s 9", "house b 1 s 1", "quota cap 2 2 big small", "kind small -", "kind big b", "drop big", "come small",
                     "go small s", "go big b"):
            desk = desk_with(*SMALL, "come small", "go small s", "come small" if line != "go big b" else "come big")
            before = told(desk)
            desk.ask(line)
            self.assertNotEqual(told(desk), before)
            self.assertEqual(len(desk), before[3] + 1)
            self.assertEqual([desk.ask("undo"), told(desk)], ["ok", before])

    def test_many_of_them(self):
        source = random.Random(151)
        lines = SMALL + ("come small", "come big", "go small s", "go small b", "go big b", "house b 2", "house s 2 b 1", "drop big",
                         "quota cap 3 2 big small", "kind big s", "kind tiny s", "undo", "undo", "undo", "house none")
        for _ in range(40):
            desk, past = Desk(), []
            for _ in range(60):
                line = source.choice(lines)
                before = told(desk)
                try:
                    answer = desk.ask(line)
                except ValueError:
                    self.assertEqual(told(desk), before)
                    continue
                if line == "undo":
                    self.assertEqual(answer, "ok" if past else "nothing")
                    if past:
                        self.assertEqual(told(desk), past.pop())
                else:
                    past.append(before)
                self.assertEqual(len(desk), len(past))
            while past:
                self.assertEqual([desk.ask("undo"), told(desk)], ["ok", past.pop()])
            self.assertEqual(desk.ask("undo"), "nothing")

    def test_what_is_asked_is_not_taken_back(self):
        desk = desk_with(*SMALL, "come small")
        desk.run("show", "places", "things", "enough", "fate big", "serves", "serves big", "plan", "plan big", "limits", "sure", "sure big")
        self.assertEqual([len(desk), desk.ask("undo"), str(desk.standing), len(desk)], [5, "ok", "none", 4])
        self.assertEqual([desk.ask("undo"), desk.book.kinds, len(desk)], ["ok", ("small",), 3])

    def test_long_past(self):
        began = time.time()
        desk = desk_with(*SMALL)
        desk.run(*["come small", "go small s"] * 5000)
        self.assertEqual(len(desk), 10004)
        self.assertEqual(desk.run(*["undo"] * 10005), ["ok"] * 10004 + ["nothing"])
        self.assertEqual([len(desk), desk.ask("show")], [0, "quota cap 0 0"])
        self.assertLess(time.time() - began, 15)


class Run(unittest.TestCase):
    def test_all_or_none(self):
        source = random.Random(152)
        good = SMALL + ("come small", "undo", "undo", "show", "house s 5 b 5", "drop small", "plan")
        bad = ("come tiny", "go big s", "drop tiny", "kind x", "quota cap", "", None, "kind a s", "quota cap 1 1 a", "serves x", "undo it",
               "house b 0", "fate tiny", "sure tiny", "plan tiny", 7, "quota " + "both " * 20 + " ".join(["cap 0 0"] * 21))
        for wrong in bad:
            desk = desk_with(*SMALL, "come small", "come small", "undo")
            before = told(desk)
            for _ in range(6):
                lines = [line for line in source.sample(good, 6) if line not in ("drop small",)]
                at = source.randrange(len(lines) + 1)
                with self.assertRaises(ValueError):
                    desk.run(*(lines[:at] + [wrong] + lines[at:]))
                self.assertEqual(told(desk), before)
            self.assertEqual([desk.ask("undo") for _ in range(6)], ["ok"] * 5 + ["nothing"])

    def test_the_past_comes_back(self):
        desk = desk_with(*SMALL, "come small", "come small")
        before = told(desk)
        check_error(self, ("NoKind", ("kind", "tiny")), desk.run, "undo", "undo", "undo", "undo", "undo", "undo", "undo", "house q 7", "come tiny")
        self.assertEqual(told(desk), before)
        self.assertEqual(desk.run("undo", "things", "undo", "things"), ["ok", "small s 1", "ok", "none"])

    def test_the_error_goes_on(self):
        desk = desk_with(*SMALL)
        check_error(self, ("Barred", ("kind", "big")), desk.run, "come small", "come small", "come big", "come big")
        check_error(self, ("Refused", ("kind", "big"), ("bay", "b")), desk.run, "come small", "come small", "go small s", "come big")
        check_error(self, ("BadLine", ("word", 1)), desk.run, "come small", "come", "bad")
        self.assertEqual(str(desk.standing), "none")
        with self.assertRaises(Refused) as held:
            desk.run("house s 1", "come small", "go small s", "come big")
        self.assertIsInstance(held.exception.__cause__, Shut)
        with self.assertRaises(Barred):
            desk.run("come small", "come small", "come small")


class BadLines(unittest.TestCase):
    def test_no_strings(self):
        desk = desk_with(*SMALL)
        for value in NO_OBJECTS + [desk, House(), Cap(0), DEEP, b"show", ["show"], ("show",), {"show": 1}]:
            if not isinstance(value, str):
                for call in (desk, desk.ask, desk.run):
                    check_error(self, ("BadLine", ("word", 0)), call, value)

    def test_words_that_cannot_stand(self):
        desk = desk_with(*SMALL)
        rows = [("", 0), (" ", 0), (" show", 0), ("Show", 0), ("show\n", 0), ("\nshow", 0), ("s", 0), ("none", 0), ("cap 0 0", 0), (LONG, 0),
                ("book", 0), ("show ", 1), ("show it", 1), ("undo 2", 1), ("house", 1), ("house ", 1), ("house none none", 2), ("house b", 2),
                ("house b 0", 2), ("house b 01", 2), ("house b 1 a 1", 3), ("house b 1 b 2", 3), ("house b 1\n", 2), ("house b 1 ", 3),
                ("house b " + "1" * 61, 2), ("quota", 1), ("quota cap", 2), ("quota cap 1 1 small s", 5), ("quota cap 13 0", 2),
                ("quota both cap 0 0", 5), ("quota cap 1 2 small big", 5), ("kind", 1), ("kind a", 2), ("kind A s", 1), ("kind a s or", 4),
                ("kind a - s", 3), ("kind a s keep 0", 4), ("kind a s keep 10", 4), ("kind a s t", 3), ("kind  s", 1), ("drop", 1), ("drop ", 1),
                ("drop A", 1), ("drop tiny big", 2), ("come", 1), ("come 1", 1), ("come small s", 2), ("come tiny s", 2), ("go", 1),
                ("go small", 2), ("go small s s", 3), ("go small S", 2), ("go small  s", 2), ("fate", 1), ("fate tiny x", 2), ("places b", 1),
                ("things none", 1), ("enough 1", 1), ("serves ", 1), ("serves A", 1), ("serves tiny tiny", 2), ("plan tiny big", 2),
                ("plan any", None), ("limits small", 1), ("limits ", 1), ("sure 1", 1), ("sure tiny s", 2), ("sure tiny\n", 1)]
        for line, word in rows:
            if word is None:
                check_error(self, ("NoKind", ("kind", "any")), desk.ask, line)
                continue
            self.assertEqual(line_wrong(line), word, line)
            check_error(self, ("BadLine", ("word", word)), desk.ask, line)
            check_error(self, ("BadLine", ("word", word)), desk, line)

    def test_changed_lines(self):
        """Lines changed in any place: the first word that cannot stand, ahead of what the line would call."""
        source = random.Random(153)
        spare = list(WORDS) + ["", "a", "big", "tiny", "none", "-", "or", "keep", "cap", "1", "0", "2", "12", "13", "07", "x\n", "A", "b", "s"]
        good = SMALL + ("house none", "quota either cap 1 1 big cap 2 2 big small", "kind tiny s keep 2 or b", "kind a -", "drop big", "come small",
                        "go small s", "undo", "show", "places", "things", "enough", "fate big", "serves", "serves big", "plan", "plan big",
                        "limits", "sure", "sure small")
        seen = {True: 0, False: 0}
        for line in good:
            words = line.split(" ")
            rows = [words[:at] for at in range(len(words) + 1)] + [words[:at] + words[at + 1:] for at in range(len(words))]
            for at in range(len(words) + 1):
                rows += [words[:at] + [word] + words[at:] for word in source.sample(spare, 8)]
                rows += [words[:at] + [word] + words[at + 1:] for word in source.sample(spare, 8)]
            rows += [[words[0] + sign] + words[1:] for sign in ("\n", " ", "x")] + [words + [""], [""] + words]
            for row in rows:
                seen[self.check(" ".join(row))] += 1
        self.assertTrue(min(seen.values()) > 200, seen)

    def check(self, line):
        desk = desk_with(*SMALL, "come small")
        before = told(desk)
        wrong = line_wrong(line)
        if wrong is not None:
            check_error(self, ("BadLine", ("word", wrong)), desk.ask, line)
            self.assertEqual(told(desk), before)
            return False
        try:
            self.assertNotIn("\n", desk.ask(line))
        except ValueError as error:
            self.assertNotIn(error.__class__.__name__, ("BadLine", "BadText", "ValueError"))
            self.assertEqual(told(desk), before)
        return True


class Errors(unittest.TestCase):
    def test_what_is_called_raises_its_errors(self):
        desk = desk_with(*SMALL, "come small")
        before = told(desk)
        picks = " or ".join("abcdefghijklmnop")
        rows = [("quota cap 1 1 big", ("Unlimited", ("kind", "small"))), ("quota cap 0 0", ("Unlimited", ("kind", "big"))),
                ("quota " + "both " * 20 + " ".join(["cap 0 0"] * 21), ("TooMany", ("what", "caps"), ("most", 20))),
                ("quota " + "both " * 9000 + " ".join(["cap 0 0"] * 9001), ("TooMany", ("what", "caps"), ("most", 20))),
                (f"kind big {picks}", ("TooMany", ("what", "picks"), ("most", 15))), ("kind tiny s", ("Unlimited", ("kind", "tiny"))),
                ("kind big v or w or x or y", ("TooMany", ("what", "bays"), ("most", 5))), ("drop tiny", ("NoKind", ("kind", "tiny"))),
                ("come tiny", ("NoKind", ("kind", "tiny"))), ("go small b", ("NotThere", ("kind", "small"), ("bay", "b"))),
                ("go tiny b", ("NotThere", ("kind", "tiny"), ("bay", "b"))), ("fate tiny", ("NoKind", ("kind", "tiny"))),
                ("serves none", ("NoKind", ("kind", "none"))), ("plan any", ("NoKind", ("kind", "any"))), ("sure s", ("NoKind", ("kind", "s")))]
        for line, error in rows:
            check_error(self, error, desk.ask, line)
            self.assertEqual(told(desk), before)

    def test_kinds_and_counts(self):
        desk = desk_with("quota cap 2 6 a b c d e f", *[f"kind {kind} s" for kind in "abcde"])
        check_error(self, ("TooMany", ("what", "kinds"), ("most", 5)), desk.ask, "kind f s")
        check_error(self, ("TooMany", ("what", "counts"), ("most", 500)), desk.ask, "quota cap 12 6 a b c d e f")
        self.assertEqual([desk.ask("kind e -"), len(desk)], ["ok", 7])

    def test_too_many_standings(self):
        wide = ("quota both cap 12 1 a cap 6 1 b", "kind a s or t or w", "kind b u or v")
        desk = desk_with("house s 4 t 4 u 3 v 3 w 4", *wide)
        self.assertEqual(desk.run("serves", "sure"), ["serves", "always"])
        desk.ask("house s 4 t 4 u 4 v 3 w 4")
        for line in ("serves", "serves a", "sure", "sure b"):
            check_error(self, ("TooMany", ("what", "standings"), ("most", 2000)), desk.ask, line)
        check_error(self, ("TooMany", ("what", "houses"), ("most", 250)), desk.ask, "plan")
        check_error(self, ("TooMany", ("what", "standings"), ("most", 400)), desk.ask, "limits")
        self.assertEqual([desk.ask("come a"), len(desk)], ["to s", 6])


class Alike(unittest.TestCase):
    def tuples(self, rows):
        """The tuples of an answer, as the document tells them."""
        texts = []
        for row in rows:
            texts.append(" ".join("any" if number is None else str(number) for number in row) or "-")
        return " / ".join(texts) or "none"

    def test_held_against_the_other_modules(self):
        source = random.Random(154)
        for _ in range(60):
            book, house = small_book(source), small_house(source, bays="stux", most=2)
            desk, hall = Desk(), Hall(book, house)
            kinds = list(book.kinds)
            source.shuffle(kinds)
            desk.run(f"house {house}", f"quota {book.quota}", *[f"kind {kind} {book[kind]}" for kind in kinds])
            self.assertEqual([desk.book == book, desk.house == house, desk.ask("show"), desk.ask("places"), desk.ask("enough")],
                             [True, True, book_text(book).replace("\n", " ; "), str(house), str(book.enough)])
            for _ in range(8):
                self.deed(source, desk, hall)
            for kind in (None,) + book.kinds:
                self.check(desk, hall, kind, "" if kind is None else " " + kind)

    def deed(self, source, desk, hall):
        """Do some deed at the desk and in a hall, or find the same error."""
        kind = source.choice(hall.book.kinds)
        if source.random() < 0.6:
            fate = hall.fate(kind)
            self.assertEqual(desk.ask(f"fate {kind}"), " ".join(fate))
            if fate[0] == "goes":
                self.assertEqual(desk.ask(f"come {kind}"), f"to {hall.come(kind)}")
        elif len(hall.standing):
            pair = source.choice(list(hall.standing))
            self.assertEqual(desk.ask(f"go {pair[0]} {pair[1]}"), "ok")
            hall.go(*pair)
        self.assertEqual([desk.standing == hall.standing, desk.ask("things")], [True, str(hall.standing)])

    def check(self, desk, hall, kind, name):
        """Hold answers against the other modules."""
        book, house = hall.book, hall.house
        refusal = reach(book, house).refusal(kind)
        self.assertEqual(desk.ask("serves" + name), "serves" if refusal is None else f"refuses {refusal[0]} behind {refusal[1]}")
        comings = sure(book, house, hall.standing, kind).comings
        self.assertEqual(desk.ask("sure" + name), "always" if comings is None else str(comings))
        found = plan(book, kind)
        self.assertEqual(desk.ask("plan" + name), f"least {self.tuples(found.least)} greatest {self.tuples(found.greatest)}")
        found = limits(book, house)
        self.assertEqual(desk.ask("limits"), f"greatest {self.tuples(found.greatest)} least {self.tuples(found.least)}")

    def test_held_against_the_words_of_the_document(self):
        source = random.Random(155)
        for _ in range(15):
            book, house = small_book(source, kinds="ab", bays="st", keeps=2), small_house(source, bays="st", most=2)
            world = World(book, house)
            desk = desk_with(f"house {house}", f"quota {book.quota}", *[f"kind {kind} {book[kind]}" for kind in book])
            for kind in (None,) + book.kinds:
                name = "" if kind is None else " " + kind
                self.assertEqual(desk.ask("serves" + name) == "serves", world.serves(kind))
                row = sure_row(world, world.empty, kind)
                self.assertEqual(desk.ask("sure" + name), "always" if row is None else str(row[0]))
                least, greatest = plan_numbers(book, kind)
                self.assertEqual(desk.ask("plan" + name), f"least {self.tuples(sorted(least))} greatest {self.told_any(greatest)}")
            greatest, least, _ = limits_told(book, house, lambda under: World(under, house).serves())
            self.assertEqual(desk.ask("limits"), f"greatest {self.tuples(greatest)} least {self.tuples(least)}")

    def told_any(self, rows):
        """The tuples of greatest houses, ascending, where None is above all numbers."""
        return self.tuples(sorted(rows, key=lambda row: [GREAT if number is None else number for number in row]))


if __name__ == "__main__":
    unittest.main()
