"""Sure rows, carried rows and joint standings, by the words of the document alone, for small books and houses."""

import heapq
import itertools

from oracle import World, below


def sure_row(world, start, kind):
    """The fewest comings of a row from a start to a refusal of the kinds, the kind and the row; None if there is none.

    Of the rows with the fewest comings that with the fewest deeds, the least kind, the first in order.
    """
    kinds = world.book.kinds if kind is None else (kind,)
    queue, best, found = [(0, 0, (), start)], {}, []
    while queue:
        comings, deeds, row, numbers = heapq.heappop(queue)
        if numbers in best:
            continue
        best[numbers] = row
        found.extend((comings, deeds, name, row) for name in kinds if world.fate(numbers, name) == ("refused",))
        for parts, behind in world.steps(numbers):
            heapq.heappush(queue, (comings + (parts[0] == "come"), deeds + 1, row + (parts,), behind))
    return (min(found)[0], min(found)[2:]) if found else None


def rows_within(world, start, comings):
    """All rows from a start with at most so many comings, with the standing behind each."""
    found = [((), start)]
    for parts, behind in world.steps(start):
        if parts[0] == "go" or comings > 0:
            rest = rows_within(world, behind, comings - (parts[0] == "come"))
            found.extend(((parts,) + row, last) for row, last in rest)
    return found


def carried_parts(book, house, bay, parts):
    """The parts of the row that is left of a row of the house with one place more in the bay."""
    world = World(book, house.put(bay, house[bay] + 1))
    numbers, lacking, kept = world.empty, None, []
    for part in parts:
        spot = world.fate(numbers, part[1])[1] if part[0] == "come" else part[2]
        numbers = dict(world.steps(numbers))[part]
        if part[0] == "come" and spot == bay and lacking is None:
            lacking = part[1]
        elif part[0] == "go" and spot == bay and part[1] == lacking:
            lacking = None
        else:
            kept.append(part)
    return tuple(kept)


class Joint:
    """Two worlds with the same kinds and equal quotas; joint standings are dicts from (kind, here, there) to numbers.

    As keys they are the ascending tuples of their parts.
    """

    def __init__(self, here, there):
        self.here = here
        self.there = there

    def numbers(self, parts):
        """The standings here and there of a joint standing."""
        here, there = dict.fromkeys(self.here.pairs, 0), dict.fromkeys(self.there.pairs, 0)
        for kind, bay, spot, number in parts:
            here[kind, bay] += number
            there[kind, spot] += number
        return tuple(here.values()), tuple(there.values())

    def fates(self, parts, kind):
        """What a coming does here and there."""
        here, there = self.numbers(parts)
        return self.here.fate(here, kind), self.there.fate(there, kind)

    def changed(self, parts, key, more):
        table = {part[:3]: part[3] for part in parts}
        table[key] = table.get(key, 0) + more
        return tuple(name + (number,) for name, number in sorted(table.items()) if number)

    def steps(self, parts):
        """The deeds in order, with the joint standing behind each."""
        found = []
        for kind in self.here.book.kinds:
            here, there = self.fates(parts, kind)
            if here[0] == there[0] == "goes":
                found.append((("come", kind), self.changed(parts, (kind, here[1], there[1]), 1)))
        for kind, bay, spot, _ in parts:
            found.append((("go", kind, bay, spot), self.changed(parts, (kind, bay, spot), -1)))
        return found

    def came(self):
        """For each joint standing that comes about the first of the rows with the fewest deeds."""
        found = {(): ()}
        layer = dict(found)
        while layer:
            behind = {}
            for parts, row in layer.items():
                for deed, after in self.steps(parts):
                    if after not in found and row + (deed,) < behind.get(after, (("z",),)):
                        behind[after] = row + (deed,)
            found.update(behind)
            layer = behind
        return found

    def refusals(self):
        """The pairs told of here, there and both."""
        found = {(True, False): [], (False, True): [], (True, True): []}
        for parts, row in self.came().items():
            for kind in self.here.book.kinds:
                marks = tuple(fate == ("refused",) for fate in self.fates(parts, kind))
                if any(marks):
                    found[marks].append((len(row), kind, row))
        return [min(rows)[1:] if rows else None for rows in found.values()]

    def greatest(self):
        """The parts of the greatest joint standings that come about."""
        came = list(self.came())
        return tuple(sorted(one for one in came if not any(one != more and self.is_below(one, more) for more in came)))

    def is_below(self, one, other):
        table = {part[:3]: part[3] for part in other}
        return all(part[3] <= table.get(part[:3], 0) for part in one)

    def many(self):
        """How many joint standings fit."""
        names = [(kind, bay, spot) for kind in self.here.book.kinds for bay in self.here.book[kind].bays
                 for spot in self.there.book[kind].bays]
        most = sum(self.here.house[bay] for bay in self.here.book.bays)
        rows = [()]
        for name in names:
            longer = [row + ((name + (number,),) if number else ()) for row in rows for number in range(most + 1)]
            rows = [row for row in longer if self.fits(row)]
        return len(rows)

    def fits(self, parts):
        here, there = self.numbers(parts)
        return self.here.of(here).fits(self.here.book, self.here.house) and self.there.of(there).fits(self.there.book, self.there.house)


def limits_told(book, house, reached):
    """The greatest tuples of limits that are served and the least that are not, by what `reached(book)` tells of each."""
    tops = [book.at_once(kind) for kind in book.kinds]
    rows = list(itertools.product(*[range(top + 1) for top in tops]))
    served = {row: reached(limited(book, row)) for row in rows}
    yes = [row for row in rows if served[row]]
    no = [row for row in rows if not served[row]]
    greatest = [row for row in yes if not any(other != row and below(row, other) for other in yes)]
    return tuple(greatest), tuple(row for row in no if not any(other != row and below(other, row) for other in no)), served


def limited(book, row):
    """The book whose quota lets at most so many of each kind."""
    from nextkind.quotas import Cap
    quota = book.quota
    for kind, number in zip(book.kinds, row):
        quota = quota & Cap(number, kind)
    return book.under(quota)


def lamps_lit(world, numbers):
    """The bays of the book that have no free place at a standing, ascending."""
    taken = {bay: 0 for bay in world.book.bays}
    for (_, bay), number in zip(world.pairs, numbers):
        taken[bay] += number
    return tuple(bay for bay in sorted(taken) if taken[bay] == world.house[bay])


def lamps_rows(world, changes):
    """For each standing that may stand behind changes of lamps the first of the rows with the fewest deeds.

    A walk through all deeds, where a place is a number of changes seen and a standing.
    """
    found = {(0, world.empty): ()}
    layer = dict(found)
    while layer:
        behind = {}
        for (seen, numbers), row in layer.items():
            for parts, after in world.steps(numbers):
                changed = set(lamps_lit(world, numbers)) ^ set(lamps_lit(world, after))
                assert len(changed) < 2
                if changed and (seen == len(changes) or changes[seen] not in changed):
                    continue
                place = (seen + len(changed), after)
                if place not in found and row + (parts,) < behind.get(place, (("z",),)):
                    behind[place] = row + (parts,)
        found.update(behind)
        layer = behind
    return {numbers: row for (seen, numbers), row in found.items() if seen == len(changes)}
