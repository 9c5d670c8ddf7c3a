"""The examples of the document, as they stand there, section by section in one space of names."""

import unittest

HOUSES = """
>>> from nextkind.houses import House
>>> two = House(s=1, b=1)
>>> [two.bays, two["s"], two["n"], two.total, str(two), two == House(b=1, s=1, n=0), "n" in two, list(two)]
[('b', 's'), 1, 0, 2, 'b 1 s 1', True, False, ['b', 's']]
>>> [str(two + House(s=2)), str(3 * two), str(House(s=7) // 2), str(House(s=7) % 2), str(two & House(s=5)), str(two | House(s=5))]
['b 1 s 3', 'b 3 s 3', 's 3', 's 1', 's 1', 'b 1 s 5']
>>> [two <= House(s=1, b=2), House(s=2) <= House(b=2), House(b=2) <= House(s=2), [str(house) for house in two.lesser()]]
[True, False, False, ['none', 's 1', 'b 1', 'b 1 s 1']]
>>> two - House(b=2)
raises Lacking('b')
"""

RULES = """
>>> from nextkind.rules import Even, First, Rule, parting
>>> rule = First("s", ("n", 2), ("s", 3)) | First("n", "b")
>>> [rule.picks, rule == First("s", "n", "b"), rule.bays, rule.keep("n"), rule.keep("a"), str(rule + 1)]
[(('s', 0), ('n', 0), ('b', 0)), True, ('b', 'n', 's'), 0, None, 's keep 1 or n keep 1 or b keep 1']
>>> [rule(House(n=1, b=5)), rule(House()), str(rule - "s"), len(First()), str(First())]
['n', None, 'n or b', 0, '-']
>>> even = Even("n", "m", most=2)
>>> [even.picks, even(House(n=1, m=2)), even(House(n=3, m=9)), even(House(m=1))]
[(('n', 1), ('m', 1), ('n', 0), ('m', 0)), 'm', 'n', 'm']
>>> [(First("s", ("s", 9)) + 1).picks, Rule.read("or or keep") == First("or", "keep")]
[(('s', 1),), True]
>>> [str(parting(First("n"), First(("n", 1)))), str(parting(First("n", "s"), First("s", "n"))), parting(even, Even("n", "m", most=2))]
['n 1', 'n 1 s 1', None]
>>> Rule.read("s or n keep 12")
raises BadText(0, 4)
"""

QUOTAS = """
>>> from nextkind.quotas import Cap, Quota
>>> quota = Cap(2, "small") & Cap(1, "big") & Cap(2, "small", "big")
>>> [{"small": 1, "big": 1} in quota, {"small": 2, "big": 1} in quota, {"tiny": 99} in quota, len(quota), quota.bounds("tiny")]
[True, False, True, 3, False]
>>> [quota.listed("big", "small"), quota.fullest("big", "small"), (quota | Cap(3, "big", "small")).fullest("big", "small")]
[((0, 0), (0, 1), (0, 2), (1, 0), (1, 1)), ((0, 2), (1, 1)), ((0, 3), (1, 2), (2, 1), (3, 0))]
>>> str(quota)
'both both cap 2 1 small cap 1 1 big cap 2 2 big small'
>>> (quota | Cap(1, "big")).listed("big", "small")
raises Unlimited('small')
"""

BOOKS = """
>>> from nextkind.books import Book
>>> from nextkind.standings import Standing
>>> book = Book(quota, small=First("s", "b"), big=First("b"))
>>> [book.kinds, book.bays, book.pairs, str(book.enough), book.at_once("small", "big"), book.at_once("big"), str(book["small"])]
[('big', 'small'), ('b', 's'), (('big', 'b'), ('small', 'b'), ('small', 's')), 'b 2 s 2', 2, 1, 's or b']
>>> kept = book.exchanged("small", First("s", ("b", 1)))
>>> [str(kept.enough), kept.fate(two, Standing({("small", "s"): 1}), "small"), book.fate(two, Standing({("small", "s"): 1}), "small")]
['b 3 s 2', ('refused',), ('goes', 'b')]
>>> [book.fate(two, Standing({("small", "s"): 1, ("small", "b"): 1}), "big"), book.fate(two, Standing({("small", "b"): 1}), "big")]
[('barred',), ('refused',)]
>>> Book(Cap(2, "small"), small=First("s"), big=First("b"))
raises Unlimited('big')
"""

STANDINGS = """
>>> from nextkind.standings import Standing, fitting
>>> both = Standing({("small", "s"): 1, ("big", "b"): 1, ("small", "b"): 0})
>>> [str(both), both.parts, both.counts, str(both.taken), both["small", "b"], both.of_kind("small"), both.in_bay("b"), list(both)]
['big b 1 small s 1', (('big', 'b', 1), ('small', 's', 1)), {'big': 1, 'small': 1}, 'b 1 s 1', 0, 1, 1, [('big', 'b'), ('small', 's')]]
>>> [str(standing) for standing in fitting(book, two)]
['none', 'small s 1', 'small b 1', 'small b 1 small s 1', 'big b 1', 'big b 1 small s 1']
>>> [both.fits(book, two), both.fits(book, House(b=1)), str(both.left_free(House(b=3, s=1))), str(both - Standing({("big", "b"): 1}))]
[True, False, 'b 2', 'small s 1']
>>> both.without_one("small", "b")
raises NotThere('small', 'b')
"""

DEEDS = """
>>> from nextkind.deeds import Come, Go, Row
>>> row = Row(Come("small"), Come("small"), Go("small", "s"))
>>> [str(row), row.parts[2], row.comings, len(row.until(2)), Come("z") == Go("z", "a"), Row.from_parts(row.parts) == row]
['come small ; come small ; go small s', ('go', 'small', 's'), 2, 2, False, True]
>>> Row.read("come small ; go small")
raises BadText(0, 5)
"""

HALLS = """
>>> from nextkind.halls import Hall
>>> hall = Hall(book, two)
>>> [hall.come("small"), hall.come("small"), hall.fate("big"), hall.go("small", "s"), hall.fate("big"), str(hall.free), str(hall.row)]
['s', 'b', ('barred',), None, ('refused',), 's 1', 'come small ; come small ; go small s']
>>> hall += "small"
>>> hall -= ("small", "b")
>>> [hall.tried(lambda held: held.come("big")), str(hall.standing), len(hall), hall["small", "s"], hall.undo(), str(hall.standing), "big" in hall]
['b', 'small s 1', 1, 1, True, 'small b 1 small s 1', False]
>>> hall.come("big")
raises Barred('big')
>>> hall.play(Row(Go("small", "s"), Come("big")))
raises Refused('big', 'b')
"""

REACH = """
>>> from nextkind.reach import reach
>>> reached = reach(book, two)
>>> [bool(reached), len(reached), [str(standing) for standing in reached.greatest], reached.refused, str(reached.refusal()[1])]
[False, 6, ['small b 1 small s 1', 'big b 1 small s 1'], ('big',), 'come small ; come small ; go small s']
>>> [reached.refusal("small"), reached.at_once(), reached.at_once("small", "b"), str(reached.row_to(both)), bool(reach(book, House(b=1, s=2)))]
[None, 2, 1, 'come big ; come small', True]
>>> [str(row) for row in reached.rows(2)]
['come big ; come small', 'come big ; go big b', 'come small ; come big', 'come small ; come small', 'come small ; go small s']
>>> reach(book, House(b=1, s=2)).row_to(Standing({("small", "b"): 1}))
raises Never
"""

PAPERS = """
>>> from nextkind.looker import shows_exact, shows_plan, shows_serving
>>> from nextkind.papers import exact_paper, plan_paper, serving_paper
>>> paper = serving_paper(book, House(b=1, s=2))
>>> [paper, shows_serving(book, House(b=1, s=2), paper), shows_serving(book, two, paper)]
[('serves', ((('small', 's', 2),), (('big', 'b', 1), ('small', 's', 1)))), True, False]
>>> [serving_paper(book, two), shows_serving(book, two, ("refuses", "small", (("come", "big"),)))]
[('refuses', 'big', (('come', 'small'), ('come', 'small'), ('go', 'small', 's'))), False]
>>> [exact_paper(book, House(b=2))[1][0], shows_exact(book, House(b=2), exact_paper(book, House(b=2)))]
[((('small', 'b', 2),), (('come', 'small'), ('come', 'small'))), True]
>>> [plan_paper(book)[2], shows_plan(book, plan_paper(book))]
[(((0, None), 'big', ()), ((1, 1), 'big', (('come', 'small'), ('come', 'small'), ('go', 'small', 's')))), True]
"""

PLANS = """
>>> from nextkind.plans import plan
>>> found = plan(book)
>>> [found.bays, found.least, found.greatest, found(House(b=1, s=10 ** 30)), two in found, str(found.least_houses[0])]
[('b', 's'), ((1, 2), (2, 0)), ((0, None), (1, 1)), True, False, 'b 1 s 2']
>>> [found.cheapest(b=5, s=2)[0], str(found.cheapest(b=5, s=2)[1]), found.spare(House(b=2, n=7, s=3)), plan(book, "small").least, plan(book, "small").greatest]
[9, 'b 1 s 2', ('b', 'n', 's'), ((0, 2), (1, 1), (2, 0)), ((0, 1), (1, 0))]
>>> [(found & plan(book, "small")) == found, found <= plan(book, "small"), plan(book.exchanged("small", First())).least]
[True, True, ()]
>>> plan(book, "tiny")
raises NoKind('tiny')
"""

COVERS = """
>>> from nextkind.covers import covers
>>> [bool(covers(book, kept)), bool(covers(kept, book)), str(covers(kept, book).house)]
[True, False, 'b 2']
"""

LIMITS = """
>>> from nextkind.limits import limits
>>> found = limits(book, two)
>>> [found.kinds, found.greatest, found.least, found.serves(small=1), found.serves(small=10 ** 20, big=0), found.serves()]
[('big', 'small'), ((0, 2), (1, 1)), ((1, 2),), True, True, False]
"""

SURE = """
>>> from nextkind.sure import sure
>>> found = sure(book, two)
>>> [found.comings, str(found.row[1]), [[str(standing) for standing in some] for some in found.lists], sure(book, two, both).comings]
[2, 'come small ; come small ; go small s', [['none'], ['small s 1', 'big b 1']], 1]
>>> found = sure(book, House(b=2))
>>> [found.comings, found.row, [[str(standing) for standing in some] for some in found.lists]]
[None, None, [['none'], ['small b 1', 'big b 1'], ['small b 2', 'big b 1 small b 1']]]
"""

ALONG = """
>>> from nextkind.along import beside, carried
>>> ring = Book(Cap(1, "a") & Cap(1, "c") & Cap(1, "e"), a=First("n", "s"), c=First("s", "m"), e=First("s"))
>>> small, large = House(m=1, s=1), House(m=1, n=1, s=1)
>>> found = beside(ring, small, ring, large)
>>> [found.here, found.there, found.both]
[('a', (('come', 'c'),)), ('e', (('come', 'a'), ('come', 'c'), ('go', 'a', 's', 'n'))), ('e', (('come', 'c'),))]
>>> str(carried(ring, small, "n", Row.read("come a ; come c ; go a n"), "e"))
'come c'
>>> carried(ring, small, "n", Row.read("come a ; go a s"), "e")
raises NotRefused(1)
"""

LAMPS = """
>>> from nextkind.lamps import Lamps
>>> lamps = Lamps(book, two)
>>> [lamps.change("s"), lamps.change("b"), lamps.lit, [str(standing) for standing in lamps.standings], lamps.fates("big")]
[None, None, ('b', 's'), ['small b 1 small s 1', 'big b 1 small s 1'], ('barred',)]
>>> lamps += "s"
>>> [lamps.seen, [str(standing) for standing in lamps.standings], lamps.fates("big"), lamps.fates("small")]
[('s', 'b', 's'), ['small b 1', 'big b 1'], ('barred', 'refused'), ('goes',)]
>>> lamps.change("n")
raises Never('n')
"""

READERS = """
>>> from nextkind.reader import read_book
>>> from nextkind.texts import book_text
>>> book_text(kept)
'quota both both cap 2 1 small cap 1 1 big cap 2 2 big small\\nkind big b\\nkind small s or b keep 1'
>>> [read_book(book_text(kept)) == kept, House.read("none") == House(), House.read("none 3")["none"], str(Standing.read("a b 2 a c 1"))]
[True, True, 3, 'a b 2 a c 1']
>>> Quota.read("both cap 2 1 a cap 13 0")
raises BadText(0, 6)
>>> read_book("quota cap 1 1 a\\nkind a s or")
raises BadText(1, 4)
>>> Standing.read("a c 1 a b 2")
raises BadText(0, 4)
"""

DESK = """
>>> from nextkind.desk import Desk
>>> desk = Desk()
>>> desk.run("house b 1 s 1", "quota cap 2 2 big small", "kind small s or b", "kind big b", "come small", "come small", "go small s", "fate big")
['ok', 'ok', 'ok', 'ok', 'to s', 'to b', 'ok', 'refused']
>>> desk.run("things", "serves", "plan", "limits", "sure", "undo", "things")
['small b 1', 'refuses big behind come big', 'least 2 0 greatest 1 any', 'greatest 0 2 / 1 1 least 1 2 / 2 0', '0', 'ok', 'small b 1 small s 1']
>>> desk.ask("serves tiny")
raises NoKind('tiny')
>>> desk.ask("go small")
raises BadLine(2)
"""


SECTIONS = (HOUSES, RULES, QUOTAS, BOOKS, STANDINGS, DEEDS, HALLS, REACH, PAPERS, PLANS, COVERS, LIMITS, SURE, ALONG, LAMPS,
            READERS, DESK)


def answer(line, names):
    """What a line of an example shows: the repr of its value, the error that it raises, or nothing."""
    try:
        code = compile(line, "example", "eval")
    except SyntaxError:
        exec(line, names)
        return None
    try:
        return repr(eval(code, names))
    except ValueError as error:
        return error_shown(error)


def error_shown(error):
    """How an example shows an error: its class, and what it was made with but where that is an object."""
    fields = list(vars(error).values())
    if any(not isinstance(field, (str, int)) for field in fields):
        return f"raises {error.__class__.__name__}"
    return "raises " + repr(error)


class Examples(unittest.TestCase):
    maxDiff = None

    def test_examples(self):
        names = {}
        for section in SECTIONS:
            lines = section.strip().split("\n")
            shown = []
            for line in lines:
                if not line.startswith(">>> "):
                    continue
                shown.append(line)
                told = answer(line[4:], names)
                if told is not None:
                    shown.append(told)
            self.assertEqual(shown, lines)


if __name__ == "__main__":
    unittest.main()
