"""Houses: how many places each bay has."""

from nextkind.checks import ascending, is_name, is_number, numbers_told
from nextkind.errors import BadName, BadNumber, BadTable, Lacking
from nextkind.words import Words


class House:
    """A number of places for each bay; a bay that is not told has 0."""

    DIGITS = 60

    def __init__(self, **places):
        for name in ascending(places):
            if not is_name(name):
                raise BadName(name)
        self._numbers = numbers_told(places)
        self._bays = tuple(self._numbers)

    @classmethod
    def of(cls, table):
        """The house that a table from names to numbers tells."""
        if not isinstance(table, dict):
            raise BadTable(table)
        for key in table:
            if not is_name(key):
                raise BadName(key)
        return house_with(table)

    @staticmethod
    def none():
        """The house without places."""
        return House()

    @classmethod
    def read(cls, text):
        """The house with this text."""
        return house_with(places_from(Words(text)))

    @property
    def bays(self):
        """The bays with a place, ascending."""
        return self._bays

    @property
    def total(self):
        """All places together."""
        return sum([self._numbers[bay] for bay in self._bays])

    def put(self, bay, number):
        """The house with this number of places in the bay."""
        if not is_name(bay):
            raise BadName(bay)
        return house_with({**self._numbers, bay: number})

    def lesser(self):
        """All houses at most this one, ascending as tuples of the numbers of its bays."""
        tops = tuple([self._numbers[bay] for bay in self._bays])
        numbers = tuple([0 for _ in tops])
        while numbers is not None:
            yield house_with({bay: number for bay, number in zip(self._bays, numbers)})
            numbers = risen(numbers, tops)

    def __getitem__(self, at):
        if not is_name(at):
            raise BadName(at)
        return self._numbers.get(at, 0)

    def __contains__(self, x):
        return isinstance(x, str) and x in self._numbers

    def __len__(self):
        return len(self._bays)

    def __iter__(self):
        return iter(self._bays)

    def __bool__(self):
        return bool(self._bays)

    def __add__(self, other):
        return house_with({bay: self[bay] + other[bay] for bay in bays_of(self, other)})

    def __sub__(self, other):
        for bay in other:
            if self[bay] < other[bay]:
                raise Lacking(bay)
        return house_with({bay: self[bay] - other[bay] for bay in self})

    def __mul__(self, other):
        if not is_number(other):
            raise BadNumber(other)
        return house_with({bay: self[bay] * other for bay in self})

    def __rmul__(self, other):
        return self * other

    def __floordiv__(self, other):
        check_share(other)
        return house_with({bay: self[bay] // other for bay in self})

    def __mod__(self, other):
        check_share(other)
        return house_with({bay: self[bay] % other for bay in self})

    def __and__(self, other):
        return house_with({bay: self[bay] if self[bay] < other[bay] else other[bay] for bay in self})

    def __or__(self, other):
        bays = bays_of(self, other)
        return house_with({bay: self[bay] if self[bay] > other[bay] else other[bay] for bay in bays})

    def __eq__(self, other):
        return isinstance(other, House) and self._numbers == other._numbers

    def __le__(self, other):
        return all([self[bay] <= other[bay] for bay in self])

    def __lt__(self, other):
        return self <= other and not self == other

    def __ge__(self, other):
        return other <= self

    def __gt__(self, other):
        return other < self

    def __str__(self):
        if not self._bays:
            return "none"
        return " ".join([f"{bay} {self._numbers[bay]}" for bay in self._bays])


def house_with(table):
    """The house of a table whose keys are known to be names."""
    # Not House(**table): a keyword cannot be called like the object itself.
    house = House()
    house._numbers = numbers_told(table)
    house._bays = tuple(house._numbers)
    return house


def bays_of(one, other):
    """The bays with a place in one house or in the other, ascending."""
    return ascending(list(one) + list(other))


def check_share(k):
    """Raise BadNumber unless something can be shared out to k."""
    if not is_number(k) or k == 0:
        raise BadNumber(k)


def risen(numbers, tops):
    """The tuple at most tops that follows numbers in ascending order, None behind the last."""
    for at in range(len(tops) - 1, -1, -1):
        if numbers[at] < tops[at]:
            return numbers[:at] + (numbers[at] + 1,) + tuple([0 for _ in tops[at + 1:]])
    return None


def places_from(words):
    """The table of places that words tell, up to their end."""
    if words.alone("none"):
        words.step()
        return {}
    bay = words.take_name()
    places = {bay: words.take_number(1)}
    while words.more():
        bay = words.take_name(bay)
        places[bay] = words.take_number(1)
    return places
