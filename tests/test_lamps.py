"""Lamps: what may stand behind changes, held against a slow walk through all deeds, and halls watched by lamps."""

import random
import time
import unittest

from helpers import NO_NAMES, NO_OBJECTS, check_error, same
from nextkind.books import Book
from nextkind.deeds import Row
from nextkind.halls import Hall
from nextkind.houses import House
from nextkind.lamps import Lamps
from nextkind.quotas import Cap
from nextkind.reach import reach
from nextkind.rules import First
from nextkind.standings import Standing, fitting
from oracle import World, small_book, small_house
from plain_walks import lamps_lit, lamps_rows

QUOTA = Cap(2, "small") & Cap(1, "big") & Cap(2, "small", "big")
BOOK = Book(QUOTA, small=First("s", "b"), big=First("b"))
TWO = House(s=1, b=1)
WIDE = Book(Cap(12, "a") & Cap(6, "b"), a=First("s", "t", "w"), b=First("u", "v"))
FULL = House(s=4, t=4, w=4, u=3, v=3)


def small_worlds(seed, many, most=60):
    """Some books and houses with few standings."""
    source = random.Random(seed)
    found = []
    while len(found) < many:
        world = World(small_book(source), small_house(source, bays="stux", most=2))
        if len(list(fitting(world.book, world.house))) <= most:
            found.append(world)
    return found


class Watched(unittest.TestCase):
    def test_held_against_a_slow_walk(self):
        source = random.Random(131)
        changed = 0
        for world in small_worlds(132, 300):
            lamps = Lamps(world.book, world.house)
            changes = []
            self.check(world, lamps, changes)
            for _ in range(12):
                bay = source.choice(world.book.bays + ("x",)) if world.book.bays else "x"
                rows = lamps_rows(world, changes + [bay]) if bay in world.book.bays else {}
                if not rows:
                    check_error(self, ("Never", ("value", bay)), lamps.change, bay)
                elif source.random() < 0.8:
                    self.assertIsNone(lamps.change(bay))
                    changes.append(bay)
                else:
                    lamps += bay
                    changes.append(bay)
                if source.random() < 0.2:
                    self.assertIs(lamps.undo(), bool(changes))
                    changes = changes[:-1]
                self.check(world, lamps, changes)
                changed += len(changes)
        self.assertGreater(changed, 800)

    def check(self, world, lamps, changes):
        """Fail unless lamps tell what the slow walk does."""
        rows = lamps_rows(world, changes)
        self.assertEqual([lamps.seen, len(lamps)], [tuple(changes), len(changes)])
        standings = lamps.standings
        self.assertIsInstance(standings, tuple)
        self.assertEqual([world.numbers(one) for one in standings], sorted(rows))
        self.assertEqual({lamps.lit}, {lamps_lit(world, numbers) for numbers in rows})
        for kind in world.book.kinds:
            told = tuple(sorted({world.fate(numbers, kind)[0] for numbers in rows}))
            self.assertTrue(same(lamps.fates(kind), told))
        for standing in fitting(world.book, world.house):
            numbers = world.numbers(standing)
            if numbers in rows:
                self.assertEqual(lamps.row_to(standing).parts, rows[numbers])
            else:
                check_error(self, ("Never", ("value", standing)), lamps.row_to, standing)

    def test_all_changes_of_a_house(self):
        """All that can be seen: every way of up to five changes, by rows of deeds that were done."""
        for world in small_worlds(133, 25, most=15):
            seen = {}
            self.go_on(world, world.empty, (), 8, seen)
            for changes, standings in seen.items():
                lamps = Lamps(world.book, world.house)
                for bay in changes:
                    lamps.change(bay)
                found = {world.numbers(one) for one in lamps.standings}
                self.assertTrue(set(standings) <= found)

    def go_on(self, world, numbers, changes, deeds, seen):
        """Go through all rows of some deeds; what was seen, and what stood then."""
        known = seen.setdefault(changes, {})
        if known.get(numbers, -1) >= deeds:
            return
        known[numbers] = deeds
        if deeds == 0 or len(changes) > 4:
            return
        for _, behind in world.steps(numbers):
            changed = set(lamps_lit(world, numbers)) ^ set(lamps_lit(world, behind))
            self.go_on(world, behind, changes + tuple(changed), deeds - 1, seen)

    def test_halls_watched(self):
        source = random.Random(134)
        for world in small_worlds(135, 40):
            hall, lamps = Hall(world.book, world.house), Lamps(world.book, world.house)
            lit = lamps.lit
            for deeds in range(25):
                parts, _ = source.choice(world.steps(world.numbers(hall.standing)) or [(None, None)])
                if parts is None:
                    break
                hall.do(Row.from_parts((parts,))[0])
                now = tuple(bay for bay in world.book.bays if hall.free[bay] == 0)
                for bay in set(now) ^ set(lit):
                    lamps += bay
                lit = now
                self.assertEqual(lamps.lit, lit)
                self.assertIn(hall.standing, lamps.standings)
                self.assertLessEqual(len(lamps.row_to(hall.standing)), deeds + 1)
                for kind in world.book.kinds:
                    self.assertIn(hall.fate(kind)[0], lamps.fates(kind))

    def test_rows_are_played(self):
        for world in small_worlds(136, 40):
            lamps = Lamps(world.book, world.house)
            for bay in world.book.bays * 3:
                if lamps_rows(world, lamps.seen + (bay,)):
                    lamps.change(bay)
            for standing in lamps.standings:
                hall = Hall(world.book, world.house)
                seen, lit = [], [bay for bay in world.book.bays if world.house[bay] == 0]
                for deed in lamps.row_to(standing):
                    hall.do(deed)
                    now = [bay for bay in world.book.bays if hall.free[bay] == 0]
                    seen.extend(set(now) ^ set(lit))
                    lit = now
                self.assertEqual([tuple(seen), hall.standing == standing], [lamps.seen, True])


class Ordinary(unittest.TestCase):
    def test_bays_without_places_are_lit_at_once(self):
        lamps = Lamps(BOOK, House(s=1, n=3))
        self.assertEqual([lamps.lit, lamps.seen, len(lamps), [str(one) for one in lamps.standings]], [("b",), (), 0, ["none"]])
        check_error(self, ("Never", ("value", "b")), lamps.change, "b")
        self.assertEqual([lamps.fates("big"), lamps.fates("small")], [("refused",), ("goes",)])
        lamps.change("s")
        self.assertEqual([lamps.lit, lamps.fates("big"), lamps.fates("small")], [("b", "s"), ("refused",), ("refused",)])

    def test_bays_of_the_house_that_no_rule_names(self):
        lamps = Lamps(BOOK, House(s=1, b=1, n=1))
        for bay in ("n", "x"):
            check_error(self, ("Never", ("value", bay)), lamps.change, bay)
        self.assertEqual(lamps.lit, ())

    def test_undo(self):
        lamps = Lamps(BOOK, TWO)
        self.assertIs(lamps.undo(), False)
        told = []
        for bay in ("s", "b", "s", "b", "b"):
            told.append((lamps.seen, lamps.lit, [str(one) for one in lamps.standings], lamps.fates("big"), len(lamps)))
            lamps.change(bay)
        for row in told[::-1]:
            self.assertIs(lamps.undo(), True)
            self.assertEqual((lamps.seen, lamps.lit, [str(one) for one in lamps.standings], lamps.fates("big"), len(lamps)), row)
        self.assertIs(lamps.undo(), False)
        self.assertEqual(lamps.seen, ())

    def test_fates_of_several_words(self):
        book = Book(Cap(3, "a", "b") & Cap(2, "b"), a=First("s"), b=First("t"))
        lamps = Lamps(book, House(s=3, t=1))
        self.assertEqual([lamps.fates("a"), lamps.fates("b")], [("goes",), ("goes",)])
        lamps += "t"
        self.assertEqual([lamps.fates("a"), lamps.fates("b")], [("barred", "goes"), ("barred", "refused")])

    def test_a_book_without_kinds(self):
        lamps = Lamps(Book(Cap(0)), TWO)
        self.assertEqual([lamps.seen, lamps.lit, [str(one) for one in lamps.standings], len(lamps)], [(), (), ["none"], 0])
        check_error(self, ("Never", ("value", "s")), lamps.change, "s")
        check_error(self, ("NoKind", ("kind", "a")), lamps.fates, "a")
        self.assertEqual(str(lamps.row_to(Standing({}))), "none")

    def test_what_is_returned_does_not_change(self):
        lamps = Lamps(house=TWO, book=BOOK)
        before = (lamps.seen, lamps.lit, lamps.standings)
        lamps.change(bay="s")
        self.assertEqual([before[0], before[1], [str(one) for one in before[2]]], [(), (), ["none"]])
        self.assertEqual([str(lamps.row_to(standing=Standing({("small", "s"): 1}))), lamps.fates(kind="small")], ["come small", ("goes",)])

    def test_iadd_keeps_the_object(self):
        lamps = same_lamps = Lamps(BOOK, TWO)
        lamps += "s"
        self.assertIs(lamps, same_lamps)


class Errors(unittest.TestCase):
    def test_strange_changes(self):
        lamps = Lamps(BOOK, TWO)
        lamps.change("s")
        told = (lamps.seen, lamps.lit, [str(one) for one in lamps.standings])
        for value in NO_NAMES + NO_OBJECTS + ["n", "none", "small", "big", ("s",), ["b"], BOOK, TWO, lamps, Standing({})]:
            check_error(self, ("Never", ("value", value)), lamps.change, value)
            with self.assertRaises(ValueError):
                lamps += value
            self.assertEqual((lamps.seen, lamps.lit, [str(one) for one in lamps.standings]), told)
        self.assertIs(lamps.undo(), True)
        self.assertEqual(lamps.seen, ())

    def test_a_change_that_cannot_be_seen_next(self):
        lamps = Lamps(BOOK, TWO)
        lamps.change("b")
        lamps.change("s")
        # Behind big and small both lamps are lit; s gets free and then b; then s can be lit again.
        for bay in ("s", "b", "s"):
            lamps.change(bay)
        self.assertEqual(lamps.seen, ("b", "s", "s", "b", "s"))
        alone = Lamps(Book(Cap(1, "a", "b"), a=First("s"), b=First("t")), House(s=1, t=1))
        alone.change("s")
        check_error(self, ("Never", ("value", "t")), alone.change, "t")
        alone.change("s")
        alone.change("t")
        self.assertEqual([alone.seen, alone.lit], [("s", "s", "t"), ("t",)])

    def test_no_kind(self):
        lamps = Lamps(BOOK, TWO)
        for value in NO_NAMES + NO_OBJECTS + ["tiny", "s", ("big",), BOOK]:
            if not (isinstance(value, str) and value in BOOK):
                check_error(self, ("NoKind", ("kind", value)), lamps.fates, value)

    def test_rows_to_what_may_not_stand(self):
        lamps = Lamps(BOOK, TWO)
        lamps.change("s")
        values = NO_NAMES + NO_OBJECTS + [Standing({}), Standing({("small", "b"): 1}), Standing({("small", "s"): 2}), "small s 1",
                                          Standing({("tiny", "s"): 1}), Standing({("small", "s"): 10 ** 59}), lamps, TWO]
        for value in values:
            check_error(self, ("Never", ("value", value)), lamps.row_to, value)
        self.assertEqual(str(lamps.row_to(Standing({("small", "s"): 1}))), "come small")

    def test_too_many_standings(self):
        self.assertEqual(len(Lamps(WIDE, FULL).standings), len(list(Lamps(WIDE, FULL).standings)))
        for house in (FULL.put("u", 4), FULL * 1000):
            check_error(self, ("TooMany", ("what", "standings"), ("most", 2000)), Lamps, WIDE, house)

    def test_2000_deeds_and_2001(self):
        lamps = Lamps(Book(Cap(2, "a"), a=First("s")), House(s=2))
        one, two = Standing({("a", "s"): 1}), Standing({("a", "s"): 2})
        for _ in range(999):
            lamps.change("s")
            lamps.change("s")
        lamps.change("s")
        self.assertEqual([len(lamps), len(lamps.seen), lamps.lit], [1999, 1999, ("s",)])
        row = lamps.row_to(two)
        self.assertEqual([len(row), row.comings, str(row.until(4))], [2000, 1001, "come a ; come a ; go a s ; come a"])
        check_error(self, ("Never", ("value", one)), lamps.row_to, one)
        lamps.change("s")
        self.assertEqual([len(lamps), lamps.lit], [2000, ()])
        check_error(self, ("TooMany", ("what", "deeds"), ("most", 2000)), lamps.row_to, one)
        check_error(self, ("TooMany", ("what", "deeds"), ("most", 2000)), lamps.row_to, Standing({}))
        check_error(self, ("Never", ("value", two)), lamps.row_to, two)
        lamps.change("s")
        check_error(self, ("TooMany", ("what", "deeds"), ("most", 2000)), lamps.row_to, two)
        self.assertIs(lamps.undo() and lamps.undo(), True)
        self.assertEqual(lamps.row_to(two), row)

    def test_time(self):
        began = time.time()
        lamps = Lamps(WIDE, FULL)
        for bay in "stw" + "uv" + "wts" + "vu" + "stwstw":
            lamps.change(bay)
        for standing in lamps.standings[::20]:
            self.assertGreater(len(lamps.row_to(standing)), 10)
        self.assertEqual(len(lamps.fates("a")), 1)
        toggled = Lamps(WIDE, FULL)
        for _ in range(50):
            toggled.change("s")
        self.assertGreaterEqual(len(toggled.row_to(toggled.standings[-1])), 50)
        self.assertLess(time.time() - began, 10)


class Alike(unittest.TestCase):
    def test_all_that_comes_about_may_stand_somewhen(self):
        """What comes about is what may stand behind the changes that its own row shows."""
        for world in small_worlds(137, 30):
            reached = reach(world.book, world.house)
            for standing in reached:
                lamps = Lamps(world.book, world.house)
                numbers = world.empty
                for part in reached.row_to(standing).parts:
                    behind = dict(world.steps(numbers))[part]
                    for bay in set(lamps_lit(world, numbers)) ^ set(lamps_lit(world, behind)):
                        lamps.change(bay)
                    numbers = behind
                self.assertIn(standing, lamps.standings)
                self.assertEqual(lamps.row_to(standing), reached.row_to(standing))


if __name__ == "__main__":
    unittest.main()
