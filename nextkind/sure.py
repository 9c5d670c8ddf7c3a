"""Sure: for how many comings nobody is refused, whatever goes between."""

from nextkind.checks import check_kind
from nextkind.grounds import Field, Ground, Walk, places_of
from nextkind.standings import Standing, check_fit


class Sure:
    """For how many comings kinds are sure at a standing, the row behind which one is not, and what shows it."""

    def __init__(self, ground, levels, comings, row):
        self._ground = ground
        self._levels = levels
        self._comings = comings
        self._row = row

    @property
    def comings(self):
        """The greatest number of comings for which they are sure, None if for all."""
        return self._comings

    @property
    def row(self):
        """A pair of a kind and the first row with the fewest comings behind which it is refused; None without any."""
        return self._row

    @property
    def lists(self):
        """For each number of comings from 0 on the greatest standings to which rows with no more of them lead."""
        many = len(self._levels) if self._comings is None else self._comings
        return tuple([self._greatest_within(number) for number in range(many)])

    def _greatest_within(self, number):
        """The greatest standings to which rows with at most so many comings lead, in order."""
        inside = {at: True for level in self._levels[:number + 1] for at in level}
        return tuple([self._ground.standing_at(at) for at in self._ground.greatest_of(inside)])

    def __bool__(self):
        return self._comings is None


class Nearest:
    """A field with just those steps by which each standing is met with the fewest comings, and with no more than most.

    So all rows to one standing have the same numbers of comings and of deeds.
    """

    def __init__(self, field, levels, most):
        self._field = field
        self._fewest = {at: number for number, level in enumerate(levels) for at in level}
        self._most = most

    def answers(self, places, at):
        """The answers of the field."""
        return self._field.answers(places, at)

    def steps(self, at, answers):
        """Those of the steps of the field."""
        steps = []
        for deed_at, behind in self._field.steps(at, answers):
            number = self._fewest[at] + (1 if deed_at < len(answers) else 0)
            if self._fewest[behind] == number and number <= self._most:
                steps.append((deed_at, behind))
        return steps


def levels_from(ground, places, start):
    """For each number of comings from 0 on the standings to which rows with so many, but not with fewer, lead."""
    met = ground.below_all([start])
    levels = [list(met)]
    while levels[-1]:
        tops = [behind for at in levels[-1] for behind in ground.behind_comings(at, ground.answers(places, at))]
        level = list(ground.below_all(tops, met))
        for at in level:
            met[at] = True
        levels.append(level)
    return levels[:-1]


def comings_until(ground, places, levels, asked):
    """The fewest comings behind which one of the kinds asked is refused, None if none ever is."""
    for number, level in enumerate(levels):
        for at in level:
            answers = ground.answers(places, at)
            if any([answers[kind_at] == Field.REFUSED for kind_at in asked]):
                return number
    return None


def sure(book, house, standing=None, kind=None):
    """For how many comings all kinds of a book, or one, are sure at a standing, the empty one if none is told."""
    check_kind(book, kind)
    start = Standing.none() if standing is None else standing
    check_fit(start, book, house)
    ground = Ground(book, house, 2000)
    places = places_of(book, house)
    asked = ground.asked(kind)
    start_at = ground.index_of(start.parts)
    levels = levels_from(ground, places, start_at)
    comings = comings_until(ground, places, levels, asked)
    if comings is None:
        return Sure(ground, levels, None, None)
    walk = Walk(Nearest(ground, levels, comings), places, [], start_at)
    kind_at, deed_ats = walk.ending(Field.REFUSED, asked)
    return Sure(ground, levels, comings, (book.kinds[kind_at], ground.row_of(deed_ats)))
