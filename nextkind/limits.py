"""Limits: how many things of each kind may be there at once, so that a house serves."""

from nextkind.checks import ascending, is_number
from nextkind.errors import BadNumber, BadTable, NoKind, TooMany
from nextkind.grounds import Field, Ground, Walk, places_of
from nextkind.houses import risen
from nextkind.plans import is_above_one, is_most, many_within
from nextkind.standings import changed


class Limits:
    """The limits under which a house serves, told by tuples of numbers by kind: those that are at most a greatest one.

    All others are at least one of the least. The tops are the greatest numbers that the quota lets of each kind.
    """

    def __init__(self, kinds, tops, greatest, least):
        self._kinds = kinds
        self._tops = tops
        self._greatest = greatest
        self._least = least

    @property
    def kinds(self):
        """The kinds of the book, ascending."""
        return self._kinds

    @property
    def greatest(self):
        """The greatest limits under which the house serves, ascending."""
        return self._greatest

    @property
    def least(self):
        """The least limits under which the house does not serve, ascending."""
        return self._least

    def serves(self, **numbers):
        """Whether the house serves with these limits; a kind that is not told has none."""
        for name in ascending(numbers):
            check_told(self, name)
        return serves_within(self, numbers)

    def serves_all(self, table):
        """The same of a table from kinds to numbers."""
        if not isinstance(table, dict):
            raise BadTable(table)
        for key in table:
            check_told(self, key)
        return serves_within(self, table)


class Limited:
    """A field in which no more things of a kind come than limits let."""

    def __init__(self, field, numbers):
        self._field = field
        self._most = numbers

    def answers(self, places, at):
        """What a coming of each kind does, in order."""
        counts = self._field.counts_at(at)
        free = [count < most for count, most in zip(counts, self._most)]
        return [answer if room else Field.BARRED for answer, room in zip(self._field.answers(places, at), free)]

    def steps(self, at, answers):
        """The steps of the field."""
        return self._field.steps(at, answers)


def check_told(found, kind):
    """Raise NoKind unless any value is one of the kinds of limits."""
    if kind not in found.kinds:
        raise NoKind(kind)


def serves_within(found, table):
    """Whether the house serves with the limits of a table, whose keys are kinds."""
    for kind in found.kinds:
        if kind in table and not is_number(table[kind]):
            raise BadNumber(table[kind])
    told = [table.get(kind, top) for kind, top in zip(found.kinds, found._tops)]
    # A limit above the greatest number that is let is the same as this number.
    row = tuple([number if number < top else top for number, top in zip(told, found._tops)])
    return any([is_most(row, high) for high in found.greatest])


def is_serving(ground, places, row):
    """Whether no kind is refused with these places under these limits."""
    asked = ground.asked(None)
    return not Walk(Limited(ground, row), places, asked).is_stopped(asked)


def limits(book, house):
    """The limits under which a house serves a book."""
    tops = tuple([book.at_once(kind) for kind in book])
    if many_within(tops) > 250:
        raise TooMany("limits", 250)
    ground = Ground(book, house, 400)
    places = places_of(book, house)
    serving = {}
    least = []
    row = tuple([0 for _ in tops])
    while row is not None:
        # Greater limits never help: above such as do not serve there is nothing to find out.
        if not is_above_one(row, least):
            if is_serving(ground, places, row):
                serving[row] = True
            else:
                least.append(row)
        row = risen(row, tops)
    kind_ats = [at for at, top in enumerate(tops)]
    greatest = [row for row in serving if not any([changed(row, at, 1) in serving for at in kind_ats])]
    return Limits(book.kinds, tops, tuple(greatest), tuple(least))
