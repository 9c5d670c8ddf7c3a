"""Standings: how many things of each kind stand in each bay."""

from nextkind.checks import ascending, is_name, numbers_told
from nextkind.errors import BadName, BadTable, Lacking, Misfit, NotThere, TooMany
from nextkind.houses import house_with
from nextkind.words import Words


class Standing:
    """A number of things for each pair of a kind and a bay; a pair that is not told has 0."""

    def __init__(self, table):
        if not isinstance(table, dict):
            raise BadTable(table)
        for key in table:
            if not is_pair(key):
                raise BadName(key)
        self._numbers = numbers_told(table)
        self._pairs = tuple(self._numbers)

    @staticmethod
    def none():
        """The empty standing."""
        return Standing({})

    @classmethod
    def read(cls, text):
        """The standing with this text."""
        return cls(things_from(Words(text)))

    @property
    def total(self):
        """All things together."""
        return sum([self._numbers[pair] for pair in self._pairs])

    @property
    def counts(self):
        """The dict from kinds, ascending, to how many things of them there are, from 1."""
        return summed(self, 0)

    @property
    def taken(self):
        """The house that tells how many things each bay holds."""
        return house_with(summed(self, 1))

    @property
    def parts(self):
        """The triples of a kind, a bay and a number from 1, ascending."""
        return tuple([(kind, bay, self._numbers[kind, bay]) for kind, bay in self._pairs])

    def of_kind(self, kind):
        """How many things of a kind there are."""
        return sum([self._numbers[pair] for pair in self._pairs if pair[0] == kind])

    def in_bay(self, bay):
        """How many things a bay holds."""
        return sum([self._numbers[pair] for pair in self._pairs if pair[1] == bay])

    def with_one(self, kind, bay):
        """The standing with one thing more of the kind in the bay."""
        return self + Standing({(kind, bay): 1})

    def without_one(self, kind, bay):
        """The standing with one thing less of the kind in the bay."""
        return self - Standing({(kind, bay): 1})

    def fits(self, book, house):
        """Whether it fits a book and a house."""
        return misfit(self, book, house) is None

    def left_free(self, house):
        """The house of the places that these things leave free."""
        held = summed(self, 1)
        for bay in held:
            if held[bay] > house[bay]:
                raise Lacking(bay)
        return house_with({bay: house[bay] - held.get(bay, 0) for bay in house})

    def __getitem__(self, at):
        return self._numbers.get(at, 0) if is_pair(at) else 0

    def __len__(self):
        return len(self._pairs)

    def __iter__(self):
        return iter(self._pairs)

    def __add__(self, other):
        return Standing({pair: self[pair] + other[pair] for pair in pairs_of(self, other)})

    def __sub__(self, other):
        for pair in other:
            if self[pair] < other[pair]:
                raise NotThere(pair[0], pair[1])
        return Standing({pair: self[pair] - other[pair] for pair in self})

    def __and__(self, other):
        return Standing({pair: self[pair] if self[pair] < other[pair] else other[pair] for pair in self})

    def __or__(self, other):
        pairs = pairs_of(self, other)
        return Standing({pair: self[pair] if self[pair] > other[pair] else other[pair] for pair in pairs})

    def __eq__(self, other):
        return isinstance(other, Standing) and self._numbers == other._numbers

    def __le__(self, other):
        return all([self[pair] <= other[pair] for pair in self])

    def __lt__(self, other):
        return self <= other and not self == other

    def __ge__(self, other):
        return other <= self

    def __gt__(self, other):
        return other < self

    def __str__(self):
        if not self._pairs:
            return "none"
        return " ".join([f"{kind} {bay} {self._numbers[kind, bay]}" for kind, bay in self._pairs])


def is_pair(value):
    """Whether any value is a tuple of two names."""
    return isinstance(value, tuple) and len(value) == 2 and is_name(value[0]) and is_name(value[1])


def pairs_of(one, other):
    """The pairs with a thing in one standing or in the other, ascending."""
    return ascending(list(one) + list(other))


def summed(standing, part):
    """The dict from kinds (part 0) or bays (part 1), ascending, to how many things there are of each."""
    sums = {}
    for pair in standing:
        sums[pair[part]] = sums.get(pair[part], 0) + standing[pair]
    return {name: sums[name] for name in ascending(sums)}


def misfit(standing, book, house):
    """What of a standing does not fit a book and a house: `pair`, `places` or `quota`; None if it fits."""
    if any([kind not in book or bay not in book[kind] for kind, bay in standing]):
        return "pair"
    if any([standing.in_bay(bay) > house[bay] for bay in book.bays]):
        return "places"
    if not book.lets(tuple([standing.of_kind(kind) for kind in book])):
        return "quota"
    return None


def check_fit(standing, book, house):
    """Raise Misfit unless a standing fits a book and a house."""
    part = misfit(standing, book, house)
    if part is not None:
        raise Misfit(part)


def standing_with(things):
    """The standing of a dict of numbers from 1, which is known to be ascending by its pairs."""
    standing = Standing({})
    standing._numbers = things
    standing._pairs = tuple(things)
    return standing


def fitting(book, house):
    """All standings that fit, ascending as tuples of the numbers of the book's pairs."""
    pairs = book.pairs
    for row in fitting_rows(book, house, 2000):
        yield standing_with({pair: number for pair, number in zip(pairs, row[0]) if number > 0})


def fitting_rows(book, house, most):
    """For each standing that fits, at most so many, in order: its numbers by pairs, its counts, the free places."""
    return rows_at(book, spots_of(book), tuple([house[bay] for bay in book.bays]), most)


def spots_of(book):
    """The spots at which things of a book can stand, one for each of its pairs, as `rows_at` takes them."""
    return [(book.kinds.index(kind), (book.bays.index(bay),)) for kind, bay in book.pairs]


def rows_at(book, spots, free, most):
    """For each way, at most so many, in which things fit at spots, in order: its numbers, its counts, the free places.

    A spot tells a kind and the bays in which one thing of it takes a place, by their indexes.
    """
    # What is below a standing that fits does, too: no beginning of these numbers is without an end.
    rows = [((), tuple([0 for _ in book]), free)]
    for kind_at, bay_ats in spots:
        rows = longer_fitting(book, rows, kind_at, bay_ats, most)
    return rows


def longer_fitting(book, rows, kind_at, bay_ats, most):
    """The rows, numbers with the counts and the free places, with each number at one spot more that fits."""
    longer = []
    for numbers, counts, free in rows:
        number = 0
        while book.lets(counts) and not any([free[bay_at] < 0 for bay_at in bay_ats]):
            if len(longer) == most:
                raise TooMany("standings", most)
            longer.append((numbers + (number,), counts, free))
            number = number + 1
            counts = changed(counts, kind_at, 1)
            for bay_at in bay_ats:
                free = changed(free, bay_at, -1)
    return longer


def changed(row, at, more):
    """The row of numbers with so many more at an index."""
    return row[:at] + (row[at] + more,) + row[at + 1:]


def things_from(words):
    """The table of things that words tell, up to their end."""
    if words.alone("none"):
        words.step()
        return {}
    things = {}
    last = ("", "")
    while words.more() or not things:
        kind = words.take_name()
        # A pair that is not above the last one is told at its bay, even if its kind alone shows it.
        words.check((kind, words.peek()) > last)
        bay = words.take_name()
        last = (kind, bay)
        things[last] = words.take_number(1)
    return things
