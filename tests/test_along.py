"""Along one row: carried rows, played in the smaller house, and joint standings, held against slow walks."""

import random
import time
import unittest

from helpers import GREAT, NO_NAMES, check_error, same
from nextkind.along import beside, carried
from nextkind.books import Book
from nextkind.deeds import Come, Go, Row
from nextkind.halls import Hall
from nextkind.houses import House
from nextkind.quotas import Cap
from nextkind.reach import reach
from nextkind.rules import First
from nextkind.standings import fitting
from oracle import World, small_book, small_house
from plain_walks import Joint, carried_parts

QUOTA = Cap(2, "small") & Cap(1, "big") & Cap(2, "small", "big")
BOOK = Book(QUOTA, small=First("s", "b"), big=First("b"))
RING = Book(Cap(1, "a") & Cap(1, "c") & Cap(1, "e"), a=First("n", "s"), c=First("s", "m"), e=First("s"))
SMALL, LARGE = House(m=1, s=1), House(m=1, n=1, s=1)


def random_row(source, world, most):
    """Some row of a world from the empty standing, with the standing behind it."""
    numbers, parts = world.empty, []
    for _ in range(source.randrange(most + 1)):
        steps = world.steps(numbers)
        if not steps:
            break
        part, numbers = source.choice(steps)
        parts.append(part)
    return tuple(parts), numbers


class Carried(unittest.TestCase):
    def test_held_against_the_words(self):
        source = random.Random(121)
        seen = {"shorter": 0, "same": 0, "not": 0, "lacking": 0}
        while min(seen.values()) < 150:
            book, house = small_book(source), small_house(source, most=2)
            bay = source.choice("stux")
            world = World(book, house.put(bay, house[bay] + 1))
            for _ in range(6):
                parts, numbers = random_row(source, world, 9)
                for kind in book.kinds:
                    self.check(world, house, bay, parts, numbers, kind, seen)

    def check(self, world, house, bay, parts, numbers, kind, seen):
        """Hold one carried row against the words, or its error against what is not refused."""
        row = Row.from_parts(parts)
        if world.fate(numbers, kind) != ("refused",):
            check_error(self, ("NotRefused", ("at", len(parts))), carried, world.book, house, bay, row, kind)
            seen["not"] += 1
            return
        found = carried(world.book, house, bay, row, kind)
        self.assertIsInstance(found, Row)
        self.assertEqual(found.parts, carried_parts(world.book, house, bay, parts))
        hall = Hall(world.book, house)
        hall.play(found)
        self.assertEqual(hall.fate(kind), ("refused",))
        seen["shorter" if len(found) < len(row) else "same"] += 1
        seen["lacking"] += (len(row) - len(found)) % 2

    def test_a_bay_that_no_rule_names(self):
        row = Row.read("come small ; come small ; go small s")
        self.assertEqual(carried(BOOK, House(s=1, b=1), "n", row, "big"), row)
        self.assertEqual(carried(BOOK, House(s=1, b=1, n=5), "zzz", row, "big"), row)

    def test_several_lacking_one_behind_another(self):
        # Each small one that comes to b while nothing lacks is left out, and so is its going.
        book = Book(Cap(3, "small", "big"), small=First("b"), big=First("b"))
        row = Row.read("come small ; go small b ; come big ; go big b ; come small ; come big ; go small b ; come small")
        self.assertEqual(str(carried(book, House(b=1), "b", row, "small")), "come big")
        row = Row.read("come small ; come big ; go small b ; come small ; go big b ; come big")
        self.assertEqual(str(carried(book, House(b=1), "b", row, "big")), "come big ; go big b ; come big")

    def test_goings_while_something_lacks(self):
        # b lacks a big one: goings of a small one out of b and of a big one out of another bay are kept.
        book = Book(Cap(4, "big", "small"), small=First("b", "s"), big=First("b", "s"))
        row = Row.read("come big ; come small ; come big ; go small b ; come small ; go big s ; come big")
        self.assertEqual(str(carried(book, House(b=1, s=1), "b", row, "big")),
                         "come small ; come big ; go small b ; come small ; go big s ; come big")
        # Once it is gone, a further big one that goes out of b is kept.
        row = Row.read("come big ; come big ; go big b ; go big b ; come small ; come small ; come big")
        self.assertEqual(str(carried(book, House(b=1, s=1), "b", row, "big")), "come big ; go big b ; come small ; come big")

    def test_empty_row(self):
        book = Book(Cap(1, "a") & Cap(1, "b"), a=First("s"), b=First("t"))
        self.assertEqual(str(carried(book, House(), "s", Row(), "b")), "none")
        check_error(self, ("NotRefused", ("at", 0)), carried, book, House(), "s", Row(), "a")
        self.assertEqual(str(carried(kind="b", row=Row(), bay="s", house=House(), book=book)), "none")

    def test_the_larger_house_is_played(self):
        # The row cannot be done in the smaller house, where the first one is refused.
        book = Book(Cap(2, "a"), a=First("s"))
        self.assertEqual(str(carried(book, House(), "s", Row.read("come a"), "a")), "none")
        self.assertEqual(str(carried(book, House(t=GREAT - 1), "t", Row(), "a")), "none")


class CarriedErrors(unittest.TestCase):
    def test_no_kind_ahead_of_all(self):
        for value in NO_NAMES + ["tiny", "n", "s", "none", ("a",), RING, SMALL]:
            for bay, row in (("n", Row()), (None, Row()), ("n", Row.read("come z")), ("A", Row.read("go a n"))):
                check_error(self, ("NoKind", ("kind", value)), carried, RING, SMALL, bay, row, value)

    def test_bad_names_ahead_of_numbers_and_rows(self):
        for value in NO_NAMES:
            for row in (Row(), Row.read("go a n")):
                check_error(self, ("BadName", ("value", value)), carried, RING, SMALL, value, row, "a")

    def test_no_number_ahead_of_rows(self):
        told = ("BadNumber", ("value", 10 ** 60))
        for bay in ("n", "zz"):
            for row in (Row(), Row.read("go a n")):
                check_error(self, told, carried, RING, House(n=GREAT, zz=GREAT), bay, row, "a")
        check_error(self, ("NotRefused", ("at", 0)), carried, RING, House(n=GREAT - 1), "n", Row.read("go a n"), "a")

    def test_the_first_deed_that_cannot_be_done(self):
        for text, at in (("come a ; go a s", 1), ("come a ; come a", 1), ("come z", 0), ("come a ; go z n ; come z", 1), ("go a n", 0),
                         ("come a ; come c ; come e", 2), ("come a ; go a n ; go a n", 2), ("come a ; go a zz", 1),
                         ("come n ; come a", 0), ("come a ; come c ; go a n ; come a", 4), ("come a ; come c", 2)):
            kind = "a" if at != 2 else "c"
            check_error(self, ("NotRefused", ("at", at)), carried, RING, SMALL, "n", Row.read(text), kind)
        self.assertEqual(str(carried(RING, SMALL, "n", Row.read("come a ; come c"), "e")), "come c")

    def test_long_rows(self):
        turn = [Come("a"), Go("a", "n")]
        row = Row.of(turn * 999 + [Come("a"), Come("c")])
        began = time.time()
        self.assertEqual(str(carried(RING, SMALL, "n", row, "e")), "come c")
        self.assertEqual(len(carried(RING, SMALL, "x", Row.of([Come("c"), Go("c", "s")] * 999 + [Come("c")]), "e")), 1999)
        check_error(self, ("NotRefused", ("at", 2000)), carried, RING, SMALL, "n", row, "c")
        self.assertLess(time.time() - began, 10)


def joint_worlds(seed, many, most=150):
    """Some pairs of worlds with the same kinds and equal quotas, with few joint standings."""
    source = random.Random(seed)
    found = []
    while len(found) < many:
        book = small_book(source, keeps=2)
        other = small_book(source, keeps=2, bays="tuv", kinds=book.kinds)
        rules = {kind: other[kind] if kind in other and source.random() < 0.6 else book[kind] for kind in book}
        other = Book.of(book.quota, rules)
        joint = Joint(World(book, small_house(source, most=2)), World(other, small_house(source, bays="stuv", most=2)))
        if len(list(fitting(book, joint.here.house))) <= 40 and joint.many() <= most:
            found.append(joint)
    return found


class Beside(unittest.TestCase):
    def test_held_against_slow_walks(self):
        seen = {}
        for joint in joint_worlds(122, 150):
            found = beside(joint.here.book, joint.here.house, joint.there.book, joint.there.house)
            told = joint.refusals()
            self.assertTrue(same([found.here, found.there, found.both], told), (found.here, found.there, found.both, told))
            self.assertTrue(same(found.greatest, joint.greatest()), (found.greatest, joint.greatest()))
            self.assertIs(bool(found), told == [None] * 3)
            for at, one in enumerate(told):
                seen[at, one is None] = seen.get((at, one is None), 0) + 1
            seen[bool(found)] = seen.get(bool(found), 0) + 1
            turned = beside(joint.there.book, joint.there.house, joint.here.book, joint.here.house)
            self.check_turned(found, turned)
        self.assertEqual(len(seen), 8, seen)
        self.assertTrue(all(many > 15 for many in seen.values()), seen)

    def check_turned(self, found, turned):
        """Fail unless two houses told the other way round tell the same (goings are ordered by other bays then)."""
        for one, other in ((found.here, turned.there), (found.there, turned.here), (found.both, turned.both)):
            self.assertEqual(one is None, other is None)
            if one is not None:
                self.assertEqual((one[0], len(one[1])), (other[0], len(other[1])))
        parts = [tuple(sorted((kind, there, here, number) for kind, here, there, number in some)) for some in turned.greatest]
        self.assertEqual(found.greatest, tuple(sorted(parts)))

    def test_a_book_beside_itself(self):
        source = random.Random(123)
        for _ in range(60):
            world = World(small_book(source), small_house(source, most=2))
            if len(list(fitting(world.book, world.house))) > 60:
                continue
            try:
                found = beside(world.book, world.house, world.book, world.house)
            except ValueError:
                continue
            refusals = world.refusals()
            self.assertEqual([found.here, found.there], [None, None])
            self.assertIs(bool(found), not refusals)
            if refusals:
                rows = [(len(row), kind, row) for kind, row in refusals.items()]
                _, kind, row = min(rows)
                self.assertEqual(found.both, (kind, tuple(part if part[0] == "come" else part + part[2:] for part in row)))
            reached = reach(world.book, world.house)
            told = [tuple((kind, bay, bay, number) for kind, bay, number in one.parts) for one in reached.greatest]
            self.assertEqual(found.greatest, tuple(sorted(told)))

    def test_fewest_deeds_then_least_kind_then_first_deeds(self):
        book = Book(Cap(2, *"abc") & Cap(1, "a"), a=First("s"), b=First("s"), c=First("s"))
        found = beside(book, House(s=1), book, House(s=5))
        self.assertEqual([found.here, found.there, found.both], [("a", (("come", "b"),)), None, None])
        found = beside(book.without("a"), House(s=5), book.without("a"), House(s=1))
        self.assertEqual([found.here, found.there, found.both], [None, ("b", (("come", "b"),)), None])
        self.assertEqual(found.greatest, ((("b", "s", "s", 1),), (("c", "s", "s", 1),)))

    def test_goings_name_two_bays(self):
        found = beside(RING, SMALL, RING, LARGE)
        self.assertEqual(found.there, ("e", (("come", "a"), ("come", "c"), ("go", "a", "s", "n"))))
        self.assertEqual(beside(RING, LARGE, RING, SMALL).here, ("e", (("come", "a"), ("come", "c"), ("go", "a", "n", "s"))))
        self.assertIs(bool(found), False)
        self.assertEqual(beside(other_house=LARGE, other_book=RING, house=SMALL, book=RING).here, ("a", (("come", "c"),)))

    def test_nobody_is_refused(self):
        found = beside(BOOK, House(b=2), BOOK, House(b=GREAT, s=2))
        self.assertEqual([bool(found), found.here, found.there, found.both], [True, None, None, None])
        self.assertEqual(found.greatest, ((("big", "b", "b", 1), ("small", "b", "s", 1)), (("small", "b", "s", 2),)))

    def test_greatest_are_ascending_as_tuples(self):
        # As numbers of the pairs in order these two would stand the other way round.
        book = Book(Cap(1, "a", "b"), a=First("s"), b=First("s"))
        self.assertEqual(beside(book, House(s=1), book, House(s=1)).greatest, ((("a", "s", "s", 1),), (("b", "s", "s", 1),)))

    def test_books_without_kinds(self):
        book = Book(Cap(0))
        found = beside(book, House(), book, LARGE)
        self.assertEqual([bool(found), found.here, found.there, found.both, found.greatest], [True, None, None, None, ((),)])

    def test_a_refusal_of_one_ends_the_row(self):
        # There the first one is refused; here nobody ever is, but only as nothing goes on.
        book = Book(Cap(2, "a"), a=First("s"))
        found = beside(book, House(s=1), book, House())
        self.assertEqual([found.here, found.there, found.both, found.greatest], [None, ("a", ()), None, ((),)])


class BesideErrors(unittest.TestCase):
    def test_unlike_kinds_ahead_of_quotas(self):
        for other in (BOOK.without("big"), BOOK.without("big").under(Cap(1, "small")), RING, Book(Cap(0)),
                      BOOK.under(QUOTA & Cap(1, "tiny")).exchanged("tiny", First())):
            check_error(self, ("Unlike", ("part", "kinds")), beside, BOOK, SMALL, other, SMALL)
            check_error(self, ("Unlike", ("part", "kinds")), beside, other, SMALL, BOOK, SMALL)

    def test_unlike_quotas(self):
        # A quota that lets the same, but is not equal, is unlike.
        for quota in (QUOTA & Cap(9, "small"), Cap(2, "small", "big"), QUOTA & Cap(0)):
            check_error(self, ("Unlike", ("part", "quota")), beside, BOOK, SMALL, BOOK.under(quota), SMALL)
        turned = Cap(2, "small") & Cap(1, "big") & Cap(2, "big", "small")
        self.assertEqual(beside(BOOK, House(s=1, b=1), BOOK.under(turned), House(s=1, b=1)).both[0], "big")

    def test_2000_joint_standings_and_more(self):
        told = ("TooMany", ("what", "standings"), ("most", 2000))
        book = Book(Cap(12, "a") & Cap(6, "b"), a=First("s", "t", "w"), b=First("u", "v"))
        other = Book(book.quota, a=First("x"), b=First("y"))
        full, wide = House(s=4, t=4, w=4, u=3, v=3), House(x=12, y=6)
        self.assertEqual(len(list(fitting(book, full))), 2000)
        self.assertIs(bool(beside(book, full, other, wide)), True)
        self.assertIs(bool(beside(other, wide, book, full)), True)
        for one, more in ((full.put("u", 4), wide), (full * 1000, House(x=GREAT, y=GREAT))):
            check_error(self, told, beside, book, one, other, more)
            check_error(self, told, beside, other, more, book, one)
        # The smaller of both houses bounds them: with less room there are fewer.
        self.assertEqual(beside(book, full * 1000, other, House(x=2, y=1)).there, ("b", (("come", "b"),)))
        # Errors of unlike books come first.
        check_error(self, ("Unlike", ("part", "quota")), beside, book, full * 9, other.under(Cap(12, "a", "b")), wide)

    def test_standings_that_never_come_about_count(self):
        # Nobody ever goes to t, u or v here, but things could stand there.
        book = Book(Cap(12, "a"), a=First("s", "t", "u", "v"))
        house = House(s=12, t=12, u=12, v=12)
        self.assertEqual(len(list(fitting(book, house))), 1820)
        self.assertIs(bool(beside(book, house, Book(Cap(12, "a"), a=First("x")), House(x=12))), True)
        told = ("TooMany", ("what", "standings"), ("most", 2000))
        check_error(self, told, beside, book, house, Book(Cap(12, "a"), a=First("x", "y")), House(x=12, y=1))
        self.assertEqual(len(reach(book, house)), 13)

    def test_time(self):
        began = time.time()
        book = Book(Cap(1, *"abcde"), **{kind: First(*"stuvw") for kind in "abcde"})
        house = House(s=1, t=1, u=1, v=1, w=1)
        found = beside(book, house, book, house)
        self.assertEqual([bool(found), len(found.greatest)], [True, 5])
        pair = Book(Cap(2, "a", "b"), a=First(*"stuvw"), b=First(*"wvuts"))
        found = beside(pair, house, pair, house * 2)
        self.assertEqual(bool(found), True)
        self.assertLess(time.time() - began, 10)


if __name__ == "__main__":
    unittest.main()
