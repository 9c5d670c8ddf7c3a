"""Plans: which houses serve a book, told by the least ones that do and the greatest ones that do not."""

from nextkind.checks import ascending, check_kind
from nextkind.errors import Never, TooMany
from nextkind.grounds import Ground, Walk
from nextkind.houses import House, house_with, risen
from nextkind.standings import changed

# What stands for any number while greatest houses are compared: it is above all numbers.
ANY = 10 ** 60


class Plan:
    """The houses that serve, told by tuples of numbers for some bays: those that are at least one of the least.

    All others are at most one of the greatest, where None is any number.
    """

    def __init__(self, bays, least, greatest):
        self._bays = bays
        self._least = least
        self._greatest = greatest

    @property
    def bays(self):
        """The bays, ascending."""
        return self._bays

    @property
    def least(self):
        """The tuples of the least houses that serve, ascending."""
        return self._least

    @property
    def greatest(self):
        """The tuples of the greatest houses that refuse, ascending; None is any number, and above all numbers."""
        return self._greatest

    @property
    def least_houses(self):
        """The least houses that serve, in order."""
        return tuple([house_at(self._bays, numbers) for numbers in self._least])

    def cheapest(self, **prices):
        """The least price of a house that serves, and the first least house of this price; None if none serves."""
        return cheapest_of(self, House(**prices))

    def cheapest_by(self, table):
        """The same with a table of the prices of places."""
        return cheapest_of(self, House.of(table))

    def spare(self, house):
        """The bays from which one place of a house that serves can be taken, ascending."""
        if not is_served(self, house):
            raise Never(house)
        return tuple([bay for bay in house if is_served(self, house.put(bay, house[bay] - 1))])

    def __call__(self, house):
        return is_served(self, house)

    def __contains__(self, x):
        return isinstance(x, House) and is_served(self, x)

    def __bool__(self):
        return bool(self._least)

    def __and__(self, other):
        bays = bays_of_both(self, other)
        least = [higher(low, more) for low in floors(self, bays) for more in floors(other, bays)]
        return plan_with(bays, least, roofs(self, bays) + roofs(other, bays))

    def __or__(self, other):
        bays = bays_of_both(self, other)
        greatest = [deeper(high, more) for high in roofs(self, bays) for more in roofs(other, bays)]
        return plan_with(bays, floors(self, bays) + floors(other, bays), greatest)

    def __le__(self, other):
        return all([is_served(other, house) for house in self.least_houses])

    def __ge__(self, other):
        return other <= self

    def __eq__(self, other):
        return isinstance(other, Plan) and self <= other and other <= self


def house_at(bays, numbers):
    """The house with these numbers of places in these bays."""
    return house_with({bay: number for bay, number in zip(bays, numbers)})


def is_served(found, house):
    """Whether a house serves by a plan."""
    return is_above_one(tuple([house[bay] for bay in found.bays]), found.least)


def cheapest_of(found, prices):
    """The least price of a least house of a plan and the first house that has it, None without any."""
    best = None
    for house in found.least_houses:
        price = sum([prices[bay] * house[bay] for bay in house])
        if best is None or price < best[0]:
            best = (price, house)
    return best


def bays_of_both(one, other):
    """The bays of two plans, ascending."""
    bays = ascending(list(one.bays) + list(other.bays))
    if len(bays) > 5:
        raise TooMany("bays", 5)
    return tuple(bays)


def floors(found, bays):
    """The least tuples of a plan for these bays, of which it may have only some: it asks no place in others."""
    return widened(found.least, found.bays, bays, 0)


def roofs(found, bays):
    """The greatest tuples of a plan for these bays, with ANY for None and for the bays that it does not have."""
    rows = [tuple([ANY if number is None else number for number in row]) for row in found.greatest]
    return widened(rows, found.bays, bays, ANY)


def widened(rows, bays, all_bays, missing):
    """Tuples of numbers for some bays made tuples for more bays, with a number for those that are missing."""
    tables = [{bay: number for bay, number in zip(bays, row)} for row in rows]
    return [tuple([table.get(bay, missing) for bay in all_bays]) for table in tables]


def plan_with(bays, least, greatest):
    """The plan that the lowest and the highest of some tuples, with ANY for any number, tell."""
    lows = lowest(least)
    highs = [tuple([None if number == ANY else number for number in row]) for row in highest(greatest)]
    return Plan(bays, tuple(lows), tuple(highs))


def higher(one, other):
    """The greater of each two numbers."""
    return tuple([x if x > y else y for x, y in zip(one, other)])


def deeper(one, other):
    """The lesser of each two numbers."""
    return tuple([x if x < y else y for x, y in zip(one, other)])


def is_most(one, other):
    """Whether each number of one is at most that of the other."""
    for x, y in zip(one, other):
        if x > y:
            return False
    return True


def is_above_one(row, lows):
    """Whether a tuple is at least one of some."""
    for low in lows:
        if is_most(low, row):
            return True
    return False


def lowest(rows):
    """Those of some tuples that are not above another one, ascending; raises TooMany for more than 250."""
    kept = []
    # By their sums, so that what is below a tuple stands ahead of it.
    for _, row in ascending([(sum(row), row) for row in rows]):
        if not is_above_one(row, kept):
            if len(kept) == 250:
                raise TooMany("houses", 250)
            kept.append(row)
    return ascending(kept)


def highest(rows):
    """Those of some tuples that are not below another one, ascending; raises TooMany for more than 250."""
    return ascending(turned(lowest(turned(rows))))


def turned(rows):
    """Tuples that are below each other just if these are above each other."""
    return [tuple([ANY - number for number in row]) for row in rows]


def tops_of(book):
    """The numbers of places that are enough, by bays; raises TooMany if more than 250 houses are at most these."""
    enough = book.enough
    tops = tuple([enough[bay] for bay in book.bays])
    if many_within(tops) > 250:
        raise TooMany("houses", 250)
    return tops


def many_within(tops):
    """How many tuples of numbers are at most the tops."""
    many = 1
    for top in tops:
        many = many * (top + 1)
    return many


def is_refusing(ground, places, asked):
    """Whether one of the kinds asked is refused with these places."""
    return Walk(ground, places, asked).is_stopped(asked)


def plan(book, kind=None):
    """The plan of a book, or of one of its kinds."""
    check_kind(book, kind)
    tops = tops_of(book)
    ground = Ground(book, book.enough, 400)
    asked = ground.asked(kind)
    least = []
    refusing = {}
    places = tuple([0 for _ in tops])
    while places is not None:
        # More places never hurt: above a house that serves there is nothing to find out.
        if not is_above_one(places, least):
            if is_refusing(ground, places, asked):
                refusing[places] = True
            else:
                least.append(places)
        places = risen(places, tops)
    ats = [at for at, top in enumerate(tops)]
    highs = [row for row in refusing if not any([changed(row, at, 1) in refusing for at in ats])]
    greatest = [tuple([None if number == top else number for number, top in zip(row, tops)]) for row in highs]
    return Plan(book.bays, tuple(least), tuple(greatest))
