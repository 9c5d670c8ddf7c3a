"""Reach: what comes about in a house, and who is refused there."""

from nextkind.checks import ascending, check_kind
from nextkind.errors import Never, TooMany
from nextkind.grounds import Field, Ground, Walk, places_of
from nextkind.standings import Standing


class Reach:
    """The standings that come about, the rows that lead to them, and the kinds that are refused."""

    def __init__(self, book, house):
        self._book = book
        self._ground = Ground(book, house, 2000)
        self._walk = Walk(self._ground, places_of(book, house), [])
        self._standings = tuple([self._ground.standing_at(at) for at in ascending(self._walk.came)])
        self._greatest = tuple([self._ground.standing_at(at) for at in self._ground.greatest_of(self._walk.came)])
        self._refused = tuple([kind for at, kind in enumerate(book) if (Field.REFUSED, at) in self._walk.stops])

    @property
    def greatest(self):
        """The standings that come about and are below no other one, in order."""
        return self._greatest

    @property
    def refused(self):
        """The kinds that are refused, ascending."""
        return self._refused

    def row_to(self, standing):
        """The row with the fewest deeds that leads to a standing, of those alike the first in order."""
        if standing not in self:
            raise Never(standing)
        return self._ground.row_of(self._walk.way_to(self._ground.index_of(standing.parts)))

    def refusal(self, kind=None):
        """A pair of the kind, or of the one that is refused first, and the first row behind which it is refused."""
        check_kind(self._book, kind)
        found = self._walk.ending(Field.REFUSED, self._ground.asked(kind))
        return None if found is None else (self._book.kinds[found[0]], self._ground.row_of(found[1]))

    def at_once(self, kind=None, bay=None):
        """The greatest number of things of a kind, or of all, in a bay, or in all, that come about at once."""
        check_kind(self._book, kind)
        return max([int(things_at(standing, kind, bay)) for standing in self._greatest])

    def rows(self, n):
        """All rows of n deeds from the empty standing, in order."""
        if n > 2000:
            raise TooMany("deeds", 2000)
        # A row in the making: the standings on its way, how many steps from each were taken up, and its deeds.
        ats = [0]
        turns = [0]
        deed_ats = []
        while ats:
            steps = self._walk.onward[ats[-1]]
            if len(deed_ats) == n:
                yield self._ground.row_of(deed_ats)
            if len(deed_ats) < n and turns[-1] < len(steps):
                deed_at, behind = steps[turns[-1]]
                turns[-1] = turns[-1] + 1
                deed_ats.append(deed_at)
                ats.append(behind)
                turns.append(0)
            else:
                ats.pop()
                turns.pop()
                # The empty standing at the beginning stands behind no deed.
                if deed_ats:
                    deed_ats.pop()

    def __contains__(self, x):
        return isinstance(x, Standing) and self._ground.index_of(x.parts) in self._walk.came

    def __len__(self):
        return len(self._standings)

    def __iter__(self):
        return iter(self._standings)

    def __bool__(self):
        return not self._refused


def things_at(standing, kind, bay):
    """How many things of a kind, or of all, a standing has in a bay, or in all; None stands for all."""
    return sum([number for name, spot, number in standing.parts if kind in (None, name) and bay in (None, spot)])


def reach(book, house):
    """What comes about in a house under a book."""
    return Reach(book, house)
