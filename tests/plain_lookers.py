"""What papers show, by the words of the document alone, for small books and houses; and papers changed at random."""

import itertools

from helpers import DEEP, GREAT
from nextkind.books import Book
from nextkind.houses import House
from nextkind.quotas import Cap
from nextkind.rules import First
from nextkind.standings import Standing
from oracle import World, below

SPARE = [None, True, False, 0, 1, 2, -1, GREAT, GREAT + 1, 10 ** 79, "", "a", "b", "s", "t", "come", "go", "serves", "refuses",
         "exact", "plan", "sure", (), [], {}, ["a"], ("a",), ("come", "a"), ("come", "b"), ("go", "a", "s"), ("a", "s", 1),
         (("a", "s", 1),), ("a", "s", True), ("a", "s", 0), {"a": 1}, DEEP, House(s=1), Standing({("a", "s"): 1}), Cap(1, "a")]
SPARE.append(Book(Cap(1, "a"), a=First("s")))


def is_integer(value):
    return value.__class__ is int


def numbers_told(world, parts):
    """The numbers of a standing that fits, told by its parts; None for any value that is not such parts."""
    if parts.__class__ is not tuple:
        return None
    table = {}
    for part in parts:
        if part.__class__ is not tuple or len(part) != 3 or not is_integer(part[2]) or not 1 <= part[2] <= GREAT:
            return None
        pair = part[:2]
        if pair not in world.pairs or pair in table or list(table) + [pair] != sorted(list(table) + [pair]):
            return None
        table[pair] = part[2]
    if not Standing(table).fits(world.book, world.house):
        return None
    return tuple(table.get(pair, 0) for pair in world.pairs)


def all_below(standings):
    """All tuples of numbers below one of some."""
    return {row for top in standings for row in itertools.product(*[range(number + 1) for number in top])}


def list_told(world, parts):
    """The standings of a list told by their parts; None for any value that is no list of some that fit."""
    if parts.__class__ is not tuple or len(parts) > 2000:
        return None
    standings = [numbers_told(world, part) for part in parts]
    return None if None in standings else standings


def is_shut(world, kinds, standings):
    """Whether a list of standings that fit is shut for some kinds."""
    inside = all_below(standings)
    for numbers in inside:
        for kind in world.book.kinds:
            fate = world.fate(numbers, kind)
            if fate == ("refused",) and kind in kinds:
                return False
            if fate[0] == "goes" and world.changed(numbers, (kind, fate[1]), 1) not in inside:
                return False
    return bool(standings)


def row_end(world, row):
    """The standing behind a row told by parts; None for any value that is no row of deeds from the empty one."""
    if row.__class__ is not tuple or len(row) > 2000:
        return None
    numbers = world.empty
    for part in row:
        steps = [behind for parts, behind in world.steps(numbers) if part.__class__ is tuple and parts == part]
        if not steps:
            return None
        numbers = steps[0]
    return numbers


def begins(paper, word, size):
    return paper.__class__ is tuple and len(paper) == size and paper[0].__class__ is str and paper[0] == word


def shows_serving(world, paper, kind):
    kinds = world.book.kinds if kind is None else (kind,)
    if begins(paper, "serves", 2):
        standings = list_told(world, paper[1])
        return standings is not None and is_shut(world, kinds, standings)
    if not begins(paper, "refuses", 3) or paper[1].__class__ is not str or paper[1] not in kinds:
        return False
    end = row_end(world, paper[2])
    return end is not None and world.fate(end, paper[1]) == ("refused",)


def shows_exact(world, paper):
    if not begins(paper, "exact", 2) or paper[1].__class__ is not tuple:
        return False
    if not all(item.__class__ is tuple and len(item) == 2 for item in paper[1]):
        return False
    standings = [numbers_told(world, parts) for parts, row in paper[1]]
    if standings != world.greatest():
        return False
    return all(row_end(world, row) == numbers for (parts, row), numbers in zip(paper[1], standings))


def plan_numbers(book, kind):
    """The least and the greatest tuples of a plan, found by all houses at most enough."""
    tops = [book.enough[bay] for bay in book.bays]
    served = {}
    for numbers in itertools.product(*[range(top + 1) for top in tops]):
        served[numbers] = World(book, House(**dict(zip(book.bays, numbers)))).serves(kind)
    yes = [one for one in served if served[one]]
    no = [one for one in served if not served[one]]
    least = [one for one in yes if not any(other != one and below(other, one) for other in yes)]
    greatest = [one for one in no if not any(other != one and below(one, other) for other in no)]
    return least, [tuple(None if number == top else number for number, top in zip(one, tops)) for one in greatest]


def are_numbers(value, told):
    """Whether any value is a tuple of numbers told, of just their classes."""
    return value.__class__ is tuple and value == told and all(x.__class__ is y.__class__ for x, y in zip(value, told))


def shows_plan(book, paper, kind, told):
    """Whether a paper shows the plan of which the tuples are told."""
    if not begins(paper, "plan", 3):
        return False
    for rows, size, numbers, word in ((paper[1], 2, told[0], "serves"), (paper[2], 3, told[1], "refuses")):
        if rows.__class__ is not tuple or len(rows) != len(numbers):
            return False
        for row, one in zip(rows, numbers):
            if row.__class__ is not tuple or len(row) != size or not are_numbers(row[0], one):
                return False
            house = House(**{bay: book.enough[bay] if number is None else number for bay, number in zip(book.bays, one)})
            if not shows_serving(World(book, house), (word,) + row[1:], kind):
                return False
    return True


def shows_sure(world, start, paper, kind):
    """Whether a paper shows for how many comings the kinds are sure at a standing, told by its numbers."""
    kinds = world.book.kinds if kind is None else (kind,)
    if not begins(paper, "sure", 3) or paper[2].__class__ is not tuple or len(paper[2]) > 2000:
        return False
    comings = paper[1]
    lists = [list_told(world, parts) for parts in paper[2]]
    if comings is not None and not (is_integer(comings) and comings == len(lists)) or None in lists:
        return False
    if comings == 0:
        return True
    insides = [all_below(standings) for standings in lists]
    if not insides or start not in insides[0]:
        return False
    for inside, following in zip(insides, insides[1:] + ([None] if comings is not None else insides[-1:])):
        for numbers in inside:
            for name in world.book.kinds:
                fate = world.fate(numbers, name)
                if fate == ("refused",) and name in kinds:
                    return False
                if following is not None and fate[0] == "goes" and world.changed(numbers, (name, fate[1]), 1) not in following:
                    return False
    return True


def sure_lists(world, start, kind):
    """For how many comings the kinds are sure at a standing (None: for any number), and the lists of the greatest."""
    kinds = world.book.kinds if kind is None else (kind,)
    inside, lists = all_below([start]), []
    while True:
        if any(world.fate(numbers, name) == ("refused",) for numbers in inside for name in kinds):
            return len(lists), lists
        lists.append(sorted(one for one in inside if not any(other != one and below(one, other) for other in inside)))
        behind = set(inside)
        for numbers in inside:
            for name in world.book.kinds:
                fate = world.fate(numbers, name)
                if fate[0] == "goes":
                    behind.add(world.changed(numbers, (name, fate[1]), 1))
        behind = all_below(behind)
        if behind == inside:
            return None, lists
        inside = behind


def sure_paper(world, start, kind):
    """The paper that shows it."""
    comings, lists = sure_lists(world, start, kind)
    return ("sure", comings, tuple(tuple(world.of(numbers).parts for numbers in some) for some in lists))


def places_in(value, path=()):
    """The paths to all parts of a nested tuple, also to itself."""
    found = [path]
    if value.__class__ is tuple:
        for at, part in enumerate(value):
            found.extend(places_in(part, path + (at,)))
    return found


def put_in(value, path, work):
    """A nested tuple with the part at a path exchanged by what is made of it."""
    if not path:
        return work(value)
    at = path[0]
    return value[:at] + (put_in(value[at], path[1:], work),) + value[at + 1:]


def changes_of(source, part):
    """Some ways to change a part: other values, and for tuples parts left out, doubled, put in and exchanged."""
    works = [lambda old, new=new: new for new in source.sample(SPARE, 2)]
    if is_integer(part):
        works += [lambda old: old + 1, lambda old: old - 1, lambda old: old == 1, lambda old: str(old)]
    if part.__class__ is str:
        works += [lambda old: old + "x", lambda old: old.upper(), lambda old: (old,)]
    if part.__class__ is tuple:
        works += [list, lambda old: old + old, lambda old: old[::-1], lambda old: (old,)]
        if part:
            at, other = source.randrange(len(part)), source.randrange(len(part))
            works += [lambda old: old[:at] + old[at + 1:], lambda old: old[:at] + old[at:at + 1] + old[at:],
                      lambda old: old[:at] + (source.choice(SPARE),) + old[at:],
                      lambda old: old[:at] + (old[other],) + old[at + 1:]]
    return works


def changed_papers(source, paper, many):
    """Some papers made from one by changes at its parts, one or two at a time."""
    found = [paper]
    for _ in range(many):
        changed = paper
        for _ in range(source.choice([1, 1, 1, 2])):
            path = source.choice(places_in(changed))
            held = changed
            for at in path:
                held = held[at]
            changed = put_in(changed, path, source.choice(changes_of(source, held)))
        found.append(changed)
    return found
