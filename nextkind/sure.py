"""Sure: for how many comings nobody is refused, whatever goes between."""

from nextkind.checks import ascending, check_kind
from nextkind.grounds import Field, Ground, Walk, places_of
from nextkind.standings import Standing, check_fit


class Sure:
    """For how many comings kinds are sure at a standing, the row behind which one is not, and what shows it.

    The levels are, for each number of comings from 0 on, the standings to which no row with fewer of them leads.
    """

    def __init__(self, ground, levels, comings, row):
        self._ground = ground
        self._levels = levels
        self._comings = comings
        self._row = row

    @property
    def comings(self):
        """The greatest number of comings for which they are sure, None if for all."""
        return self._comings

    @property
    def row(self):
        """A pair of a kind and the first row with the fewest comings behind which it is refused; None without any."""
        return self._row

    @property
    def lists(self):
        """For each number of comings from 0 on the greatest standings to which rows with no more of them lead."""
        many = len(self._levels) if self._comings is None else self._comings
        return tuple([self._greatest_within(number) for number in range(many)])

    def _greatest_within(self, number):
        """The greatest standings to which rows with at most so many comings lead, in order."""
        inside = {at: True for level in self._levels[:number + 1] for at in level}
        return tuple([self._ground.standing_at(at) for at in self._ground.greatest_of(inside)])

    def __bool__(self):
        return self._comings is None


def numbers_of(walk, kinds):
    """The numbers of comings and of deeds of the rows by which the standings were met, in the order of meeting.

    They are the fewest: all rows to one standing have as many comings more than goings as there are things more, so
    the row with the fewest deeds has the fewest comings, too.
    """
    numbers = {}
    for at in walk.came:
        before, deed_at = walk.came[at]
        if deed_at is None:
            numbers[at] = (0, 0)
        else:
            comings, deeds = numbers[before]
            numbers[at] = (comings + (1 if deed_at < kinds else 0), deeds + 1)
    return numbers


def levels_of(numbers):
    """For each number of comings from 0 on the standings for which it is the fewest."""
    levels = []
    for at in numbers:
        while len(levels) <= numbers[at][0]:
            levels.append([])
        levels[numbers[at][0]].append(at)
    return levels


def sure(book, house, standing=None, kind=None):
    """For how many comings all kinds of a book, or one, are sure at a standing, the empty one if none is told."""
    check_kind(book, kind)
    start = Standing.none() if standing is None else standing
    check_fit(start, book, house)
    ground = Ground(book, house, 2000)
    places = places_of(book, house)
    walk = Walk(ground, places, [], ground.index_of(start.parts))
    numbers = numbers_of(walk, len(book))
    refusals = []
    for turn, at in enumerate(numbers):
        answers = ground.answers(places, at)
        kind_ats = [kind_at for kind_at in ground.asked(kind) if answers[kind_at] == Field.REFUSED]
        refusals.extend([numbers[at] + (kind_at, turn, at) for kind_at in kind_ats])
    if not refusals:
        return Sure(ground, levels_of(numbers), None, None)
    comings, deeds, kind_at, turn, at = ascending(refusals)[0]
    row = ground.row_of(walk.way_to(at))
    return Sure(ground, levels_of(numbers), comings, (book.kinds[kind_at], row))
