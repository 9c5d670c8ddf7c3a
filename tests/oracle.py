"""What comes about, by the words of the document alone: slow, for small books and houses."""

from nextkind.books import Book
from nextkind.houses import House
from nextkind.quotas import Cap
from nextkind.rules import Even, First
from nextkind.standings import Standing


class World:
    """A book and a house; standings are tuples of numbers, one for each pair of the book."""

    def __init__(self, book, house):
        self.book = book
        self.house = house
        self.pairs = book.pairs
        self.empty = tuple(0 for _ in self.pairs)

    def of(self, numbers):
        return Standing(dict(zip(self.pairs, numbers)))

    def numbers(self, standing):
        return tuple(standing[pair] for pair in self.pairs)

    def changed(self, numbers, pair, more):
        at = self.pairs.index(pair)
        return numbers[:at] + (numbers[at] + more,) + numbers[at + 1:]

    def fate(self, numbers, kind):
        counts = {name: 1 if name == kind else 0 for name in self.book.kinds}
        taken = {}
        for (name, bay), number in zip(self.pairs, numbers):
            counts[name] += number
            taken[bay] = taken.get(bay, 0) + number
        if counts not in self.book.quota:
            return ("barred",)
        for bay, keep in self.book[kind].picks:
            if self.house[bay] - taken.get(bay, 0) > keep:
                return ("goes", bay)
        return ("refused",)

    def steps(self, numbers):
        """The parts of each deed, in order, with the standing behind it."""
        found = []
        for kind in self.book.kinds:
            fate = self.fate(numbers, kind)
            if fate[0] == "goes":
                found.append((("come", kind), self.changed(numbers, (kind, fate[1]), 1)))
        for pair, number in zip(self.pairs, numbers):
            if number > 0:
                found.append((("go",) + pair, self.changed(numbers, pair, -1)))
        assert [parts for parts, _ in found] == sorted(parts for parts, _ in found)
        return found

    def rows(self, n, numbers=None):
        """All rows of n deeds, as tuples of parts, with the standing behind each, in order."""
        numbers = self.empty if numbers is None else numbers
        if n == 0:
            return [((), numbers)]
        return [((parts,) + row, last) for parts, behind in self.steps(numbers) for row, last in self.rows(n - 1, behind)]

    def came(self):
        """For each standing that comes about the first of the rows with the fewest deeds that lead to it."""
        found = {self.empty: ()}
        layer = dict(found)
        while layer:
            behind = {}
            for numbers, row in layer.items():
                for parts, after in self.steps(numbers):
                    if after not in found and row + (parts,) < behind.get(after, (("z",),)):
                        behind[after] = row + (parts,)
            found.update(behind)
            layer = behind
        return found

    def refusals(self):
        """For each kind that is refused the first of the rows with the fewest deeds."""
        found = {}
        for numbers, row in self.came().items():
            for kind in self.book.kinds:
                if self.fate(numbers, kind) == ("refused",):
                    best = found.get(kind)
                    if best is None or (len(row), row) < (len(best), best):
                        found[kind] = row
        return found

    def serves(self, kind=None):
        refused = self.refusals()
        return not refused if kind is None else kind not in refused

    def greatest(self):
        """The standings that come about and are below no other one, ascending."""
        came = self.came()
        return sorted(one for one in came if not any(one != other and below(one, other) for other in came))


def below(one, other):
    """Whether each number of one is at most that of the other."""
    return all(x <= y for x, y in zip(one, other))


def small_book(source, kinds="abc", bays="stu", keeps=3):
    """Some book of a few kinds and bays."""
    kinds = source.sample(kinds, source.randrange(1, len(kinds) + 1))
    quota = Cap(source.randrange(1, 4), *kinds)
    for _ in range(source.randrange(3)):
        more = Cap(source.randrange(3), *source.sample(kinds, source.randrange(1, len(kinds) + 1)))
        quota = quota & more if source.random() < 0.7 else quota | (Cap(3, *kinds) & more)
    rules = {}
    for kind in kinds:
        some = source.sample(bays, source.randrange(0 if source.random() < 0.1 else 1, len(bays) + 1))
        rules[kind] = First(*[(bay, source.randrange(keeps)) for bay in some for _ in range(source.randrange(1, 3))])
        if source.random() < 0.2:
            rules[kind] = Even(*some, most=source.randrange(1, 3))
    return Book.of(quota, rules)


def small_house(source, bays="stu", most=3):
    """Some house of a few places."""
    return House(**{bay: source.randrange(most + 1) for bay in bays})


def small_worlds(seed, many, **told):
    """Some books and houses with few standings."""
    import random
    source = random.Random(seed)
    return [World(small_book(source, **told), small_house(source)) for _ in range(many)]
