"""Halls: what comes and goes, all their properties behind each deed, what is taken back, and blocks that are tried."""

import random
import unittest

from helpers import GREAT, NO_NAMES, NO_NUMBERS, NO_OBJECTS, check_error, error_of, same
from nextkind.books import Book
from nextkind.deeds import Come, Go, Row
from nextkind.errors import Barred, NextError, NoKind, NotThere, Refused, Shut
from nextkind.halls import Hall
from nextkind.houses import House
from nextkind.quotas import Cap
from nextkind.rules import First
from nextkind.standings import Standing
from oracle import small_worlds

QUOTA = Cap(2, "small") & Cap(1, "big") & Cap(2, "small", "big")
BOOK = Book(QUOTA, small=First("s", "b"), big=First("b"))
TWO = House(s=1, b=1)
NO_PAIRS = [None, "small", "small s", ("small",), ("small", "s", 1), ["small", "s"], (), 0, {"small": "s"}, House()]


def seen(hall):
    """All that a hall tells."""
    return [str(hall.standing), str(hall.free), str(hall.row), len(hall)]


def come_to(hall, kind, bay):
    """Whether a coming goes to a bay, by the sign."""
    there = hall[kind, bay]
    hall += kind
    return hall[kind, bay] == there + 1


class Made(unittest.TestCase):
    def test_empty(self):
        hall = Hall(BOOK, TWO)
        self.assertEqual(seen(hall), ["none", "b 1 s 1", "none", 0])
        self.assertIs(hall.book, BOOK)
        self.assertIs(hall.house, TWO)
        self.assertEqual(seen(Hall(house=TWO, book=BOOK)), seen(hall))
        self.assertEqual(hall.standing, Standing.none())
        self.assertEqual(hall.row, Row())
        self.assertEqual(hall.free, TWO)

    def test_beginning(self):
        standing = Standing({("small", "s"): 1, ("big", "b"): 1})
        hall = Hall.beginning(BOOK, House(s=1, b=3, x=7), standing)
        self.assertEqual(seen(hall), ["big b 1 small s 1", "b 2 x 7", "none", 2])
        self.assertIs(hall.undo(), False)
        self.assertIsNone(hall.go("big", "b"))
        self.assertEqual(seen(hall), ["small s 1", "b 3 x 7", "go big b", 1])
        self.assertEqual([hall.undo(), hall.undo(), hall.standing], [True, False, standing])
        self.assertEqual(seen(Hall.beginning(standing=Standing.none(), house=TWO, book=BOOK)), seen(Hall(BOOK, TWO)))

    def test_misfit(self):
        house = House(b=1, s=2, x=9)
        rows = [({("tiny", "s"): 1}, "pair"), ({("big", "s"): 1}, "pair"), ({("big", "b"): 5, ("small", "x"): 1}, "pair"),
                ({("big", "b"): 2}, "places"), ({("small", "s"): 2, ("small", "b"): GREAT}, "places"),
                ({("small", "s"): 2, ("small", "b"): 1}, "quota"), ({("small", "s"): 2, ("big", "b"): 1}, "quota")]
        for table, part in rows:
            check_error(self, ("Misfit", ("part", part)), Hall.beginning, BOOK, house, Standing(table))


class Deeds(unittest.TestCase):
    def test_come(self):
        hall = Hall(BOOK, TWO)
        self.assertEqual([hall.come("small"), hall.come(kind="small")], ["s", "b"])
        self.assertEqual(seen(hall), ["small b 1 small s 1", "none", "come small ; come small", 2])

    def test_no_kind(self):
        hall = Hall(BOOK, TWO)
        hall.come("small")
        then = seen(hall)
        for value in NO_NAMES + NO_OBJECTS + ["tiny", "s"]:
            check_error(self, ("NoKind", ("kind", value)), hall.come, value)
            check_error(self, ("NoKind", ("kind", value)), hall.fate, value)
            with self.assertRaises(NoKind) as told:
                hall += value
            self.assertTrue(same(told.exception.kind, value))
        self.assertEqual(seen(hall), then)

    def test_barred_ahead_of_refused(self):
        hall = Hall(BOOK, House(b=1))
        hall.come("big")
        check_error(self, ("Barred", ("kind", "big")), hall.come, "big")
        check_error(self, ("Refused", ("kind", "small"), ("bay", "b")), hall.come, "small")
        with self.assertRaises(Barred):
            hall += "big"
        self.assertEqual(seen(hall), ["big b 1", "none", "come big", 1])

    def test_refused_and_its_cause(self):
        book = Book(Cap(3, "a", "b", "c"), a=First(("s", 1), "t", "s"), b=First(), c=First("t", "s", ("s", 2)))
        for kind, bay in (("a", "s"), ("c", "s"), ("b", None)):
            with self.assertRaises(Refused) as told:
                Hall(book, House(x=3)).come(kind)
            error = told.exception
            self.assertEqual([error.kind, error.bay], [kind, bay])
            if bay is None:
                self.assertIsNone(error.__cause__)
            else:
                self.assertIsInstance(error.__cause__, Shut)
                self.assertEqual(vars(error.__cause__), {"bay": bay})
        hall = Hall(book, House(x=3))
        for deed in (Come("a"), Come("c")):
            for work in (lambda: hall.do(deed), lambda: hall.play(Row(deed)), lambda: hall.come(deed.kind)):
                with self.assertRaises(Refused) as told:
                    work()
                self.assertEqual(told.exception.__cause__.bay, "s")
        self.assertEqual(len(hall), 0)

    def test_go(self):
        hall = Hall(BOOK, TWO)
        hall.come("small")
        hall.come("small")
        self.assertIsNone(hall.go("small", "b"))
        self.assertIsNone(hall.go(bay="s", kind="small"))
        self.assertEqual(seen(hall), ["none", "b 1 s 1", "come small ; come small ; go small b ; go small s", 0])

    def test_not_there(self):
        hall = Hall(BOOK, TWO)
        hall.come("small")
        then = seen(hall)
        for value in NO_NAMES + NO_OBJECTS + ["b", "tiny", "small"]:
            told = ("NotThere", ("kind", "small"), ("bay", value))
            check_error(self, told, hall.go, "small", value)
            check_error(self, told, hall.__setitem__, ("small", value), 0)
            check_error(self, told, hall.__setitem__, ("small", value), None)
            check_error(self, told, hall.__isub__, ("small", value))
        for value in NO_NAMES + NO_OBJECTS + ["s", "tiny", "big"]:
            told = ("NotThere", ("kind", value), ("bay", "s"))
            check_error(self, told, hall.go, value, "s")
            check_error(self, told, hall.__setitem__, (value, "s"), 1)
            with self.assertRaises(NotThere) as found:
                hall -= (value, "s")
            self.assertTrue(same(found.exception.kind, value))
        self.assertEqual(seen(hall), then)

    def test_signs(self):
        hall = one = Hall(BOOK, TWO)
        hall += "small"
        hall += "big"
        self.assertIs(hall, one)
        self.assertEqual(str(hall.row), "come small ; come big")
        hall -= ("big", "b")
        hall -= ("small", "s")
        self.assertIs(hall, one)
        self.assertEqual(seen(one), ["none", "b 1 s 1", "come small ; come big ; go big b ; go small s", 0])
        self.assertTrue(come_to(one, "small", "s"))

    def test_number_that_stays(self):
        book = Book(Cap(5, "a") & Cap(2, "b"), a=First("s"), b=First("s", "t"))
        for number in range(6):
            hall = Hall(book, House(s=5, t=1))
            hall.play(Row.of([Come("a")] * 5 + [Come("b")]))
            hall["a", "s"] = number
            self.assertEqual([hall["a", "s"], hall["b", "t"], len(hall)], [number, 1, number + 1])
            self.assertEqual(list(hall.row)[6:], [Go("a", "s")] * (5 - number))
            if number > 0:
                for value in NO_NUMBERS + [number + 1, GREAT, -1, True, False]:
                    check_error(self, ("BadNumber", ("value", value)), hall.__setitem__, ("a", "s"), value)
                self.assertEqual(hall["a", "s"], number)
            self.assertEqual([hall.undo() for _ in range(5 - number)], [True] * (5 - number))
            self.assertEqual(hall["a", "s"], 5)
        hall["a", "s"] = 0
        for value in (0, 1, None):
            check_error(self, ("NotThere", ("kind", "a"), ("bay", "s")), hall.__setitem__, ("a", "s"), value)

    def test_do_and_play(self):
        hall = Hall(BOOK, TWO)
        self.assertEqual([hall.do(Come("small")), hall.do(deed=Come("big")), hall.do(Go("small", "s"))], ["s", "b", None])
        self.assertEqual(hall.play(Row()), [])
        self.assertEqual(hall.play(row=Row(Come("small"), Go("big", "b"), Come("small"))), ["s", None, "b"])
        self.assertEqual(seen(hall)[0::2],
                         ["small b 1 small s 1", "come small ; come big ; go small s ; come small ; go big b ; come small"])
        check_error(self, ("NoKind", ("kind", "tiny")), hall.do, Come("tiny"))
        check_error(self, ("NotThere", ("kind", "small"), ("bay", "x")), hall.do, Go("small", "x"))
        check_error(self, ("Barred", ("kind", "big")), hall.do, Come("big"))

    def test_play_that_fails(self):
        hall = Hall(BOOK, TWO)
        hall.come("small")
        then = seen(hall)
        rows = [("come big ; go small s ; come big", ("Barred", ("kind", "big"))),
                ("come small ; go small s ; come big", ("Refused", ("kind", "big"), ("bay", "b"))),
                ("go small s ; come small ; go small b", ("NotThere", ("kind", "small"), ("bay", "b"))),
                ("come small ; go small s ; come tiny", ("NoKind", ("kind", "tiny")))]
        for text, told in rows:
            check_error(self, told, hall.play, Row.read(text))
            self.assertEqual(seen(hall), then)
        self.assertEqual([hall.undo(), hall.undo()], [True, False])

    def test_undo(self):
        hall = Hall(BOOK, TWO)
        self.assertIs(hall.undo(), False)
        texts = [seen(hall)]
        for deed in Row.read("come small ; come big ; go small s ; come small ; go big b"):
            hall.do(deed)
            texts.append(seen(hall))
        for text in texts[::-1]:
            self.assertEqual(seen(hall), text)
            self.assertIs(hall.undo(), text != texts[0])
        self.assertEqual(hall.come("big"), "b")
        self.assertEqual(str(hall.row), "come big")


class Asked(unittest.TestCase):
    def test_in(self):
        hall = Hall(BOOK, TWO)
        self.assertIs("small" in hall, False)
        hall.come("small")
        self.assertIs("small" in hall, True)
        for value in NO_NAMES + NO_OBJECTS + ["big", "s", "tiny", ("small", "s"), Come("small"), hall]:
            self.assertIs(value in hall, False)

    def test_index(self):
        hall = Hall(BOOK, TWO)
        hall.come("small")
        hall.come("big")
        self.assertEqual([hall["small", "s"], hall["big", "b"], hall["small", "b"], hall["tiny", "s"]], [1, 1, 0, 0])
        for value in NO_PAIRS:
            self.assertEqual(hall[value], 0)
        for value in NO_OBJECTS + NO_NAMES:
            self.assertEqual([hall[value], hall["small", value], hall[value, "s"]], [0, 0, 0])

    def test_len(self):
        book = Book(Cap(12, "a") & Cap(12, "b"), a=First("s"), b=First("s"))
        hall = Hall(book, House(s=30))
        for at in range(12):
            self.assertEqual(len(hall), 2 * at)
            hall.come("a")
            hall.come("b")
        self.assertEqual([len(hall), hall.free], [24, House(s=6)])

    def test_iteration_is_none(self):
        with self.assertRaises(TypeError):
            list(Hall(BOOK, TWO))

    def test_fate(self):
        hall = Hall(BOOK, TWO)
        self.assertEqual([hall.fate("small"), hall.fate(kind="big")], [("goes", "s"), ("goes", "b")])
        hall.come("small")
        hall.come("small")
        self.assertEqual(hall.fate("big"), ("barred",))
        hall.go("small", "s")
        self.assertEqual([hall.fate("big"), hall.fate("small")], [("refused",), ("goes", "s")])
        self.assertEqual(len(hall), 1)

    def test_great_house(self):
        hall = Hall(BOOK, House(s=GREAT, b=GREAT, z=GREAT))
        hall.come("small")
        self.assertEqual(hall.free, House(s=GREAT - 1, b=GREAT, z=GREAT))

    def test_by_the_words(self):
        """Long walks in small houses: each answer, and all properties behind each deed."""
        source = random.Random(8)
        for world in small_worlds(3, 60):
            hall, numbers, done = Hall(world.book, world.house), world.empty, []
            for _ in range(40):
                self.check(hall, world, numbers, done)
                steps = world.steps(numbers)
                if not steps:
                    break
                parts, numbers = source.choice(steps)
                deed = Come(parts[1]) if parts[0] == "come" else Go(parts[1], parts[2])
                bay = world.fate(world.numbers(hall.standing), deed.kind)[1] if parts[0] == "come" else None
                self.assertEqual(hall.do(deed), bay)
                done.append(parts)

    def check(self, hall, world, numbers, done):
        """Fail unless a hall tells what is told by the words of the document."""
        standing = world.of(numbers)
        self.assertEqual([hall.standing, hall.free, hall.row.parts, len(hall)],
                         [standing, standing.left_free(world.house), tuple(done), standing.total])
        for kind in world.book.kinds:
            self.assertIs(kind in hall, standing.of_kind(kind) > 0)
            fate = world.fate(numbers, kind)
            self.assertEqual(hall.fate(kind), fate)
            found = error_of(lambda: hall.tried(lambda held: held.come(kind)))
            self.assertEqual(None if found is None else found[0].lower(), None if fate[0] == "goes" else fate[0])
        for pair, number in zip(world.pairs, numbers):
            self.assertEqual(hall[pair], number)


class Trials(unittest.TestCase):
    def setUp(self):
        self.hall = Hall(BOOK, TWO)
        self.hall.come("small")
        self.then = seen(self.hall)

    def test_block(self):
        with self.hall.trial() as same_hall:
            self.assertIs(same_hall, self.hall)
            same_hall.come("small")
            self.assertEqual(len(self.hall), 2)
        self.assertEqual(seen(self.hall), self.then)
        with self.hall.trial():
            self.hall["small", "s"] = 0
        self.assertEqual(seen(self.hall), self.then)
        self.assertEqual([self.hall.undo(), self.hall.undo()], [True, False])

    def test_that_an_error_leaves(self):
        with self.assertRaises(Barred) as told:
            with self.hall.trial() as held:
                held.come("big")
                held.come("big")
        self.assertEqual(told.exception.kind, "big")
        self.assertEqual(seen(self.hall), self.then)
        with self.assertRaises(ZeroDivisionError):
            with self.hall.trial() as held:
                held.go("small", "s")
                1 // 0
        self.assertEqual(seen(self.hall), self.then)

    def test_undo_within(self):
        with self.hall.trial() as held:
            held.come("big")
            self.assertEqual([held.undo(), held.undo(), held.undo()], [True, True, False])
            self.assertEqual(seen(held), ["none", "b 1 s 1", "none", 0])
            held.come("big")
        self.assertEqual(seen(self.hall), self.then)
        self.assertIs(self.hall.undo(), True)
        self.assertEqual(len(self.hall), 0)

    def test_nested(self):
        with self.hall.trial() as one:
            one.come("big")
            inner = seen(one)
            with self.assertRaises(NotThere):
                with one.trial() as two:
                    two.go("big", "b")
                    with two.trial() as three:
                        three.undo()
                        three.undo()
                        three.undo()
                    self.assertEqual(str(two.row), "come small ; come big ; go big b")
                    two.go("big", "b")
            self.assertEqual(seen(one), inner)
            one.go("small", "s")
        self.assertEqual(seen(self.hall), self.then)

    def test_begins_with_the_block(self):
        made = self.hall.trial()
        self.hall.come("small")
        then = seen(self.hall)
        with made as held:
            held.undo()
            held.undo()
        self.assertEqual(seen(self.hall), then)

    def test_left_ahead_of_its_end(self):
        for _ in range(3):
            with self.hall.trial() as held:
                held.come("big")
                continue
        self.assertEqual(seen(self.hall), self.then)

    def test_tried(self):
        self.assertEqual(self.hall.tried(lambda held: [held is self.hall, held.come("big"), len(held)]), [True, "b", 2])
        self.assertEqual(seen(self.hall), self.then)
        self.assertIsNone(self.hall.tried(work=lambda held: held.go("small", "s")))
        self.assertEqual(self.hall.tried(lambda held: held.tried(lambda inner: inner.undo()) and str(held.row)), "come small")
        self.assertEqual(seen(self.hall), self.then)
        check_error(self, ("NotThere", ("kind", "big"), ("bay", "b")), self.hall.tried,
                    lambda held: [held.undo(), held.go("big", "b")])
        self.assertEqual(seen(self.hall), self.then)


class Long(unittest.TestCase):
    def test_more_than_two_thousand_deeds(self):
        hall = Hall(BOOK, TWO)
        for _ in range(1000):
            hall.come("big")
            hall.go("big", "b")
        self.assertEqual([len(hall.row), hall.row.comings], [2000, 1000])
        hall.come("small")
        check_error(self, ("TooMany", ("what", "deeds"), ("most", 2000)), lambda: hall.row)
        self.assertEqual([str(hall.standing), len(hall), hall.fate("big")], ["small s 1", 1, ("goes", "b")])
        self.assertEqual(hall.tried(lambda held: [held.undo(), len(held.row)]), [True, 2000])
        row = Row.of([Come("big"), Go("big", "b")] * 1000)
        self.assertEqual(hall.play(row), ["b", None] * 1000)
        check_error(self, ("TooMany", ("what", "deeds"), ("most", 2000)), lambda: hall.row)
        self.assertEqual([hall.undo() for _ in range(2001)], [True] * 2001)
        self.assertEqual([len(hall.row), len(hall)], [2000, 0])
        self.assertEqual([hall.undo() for _ in range(2001)], [True] * 2000 + [False])

    def test_many_deeds_are_forgotten_at_once(self):
        hall = Hall(BOOK, TWO)
        for _ in range(15):
            hall.play(Row.of([Come("big"), Go("big", "b")] * 1000))
        with self.assertRaises(NextError):
            hall.row
        del hall


if __name__ == "__main__":
    unittest.main()
