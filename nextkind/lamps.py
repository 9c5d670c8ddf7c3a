"""Lamps: what may stand in a house of which nothing is seen but that a bay gets full, or free again."""

from nextkind.checks import ascending
from nextkind.errors import Never, NoKind, TooMany
from nextkind.grounds import Field, Ground, places_of
from nextkind.standings import Standing


class Layer:
    """What may stand behind some changes: for each bay whether its lamp is lit, and the fewest deeds to each standing.

    The lamps are the same at all of these standings. They are told by their indexes.
    """

    def __init__(self, marks, fewest):
        self.marks = marks
        self.fewest = fewest


class Lamps:
    """The lamps of a house, each lit while its bay has no free place, watched from the empty standing on."""

    def __init__(self, book, house):
        ground = Ground(book, house, 2000)
        places = places_of(book, house)
        self._book = book
        self._ground = ground
        self._full = [ground.full_bays(places, at) for at in ground.all_ats()]
        self._answers = [ground.answers(places, at) for at in ground.all_ats()]
        self._steps = [ground.steps(at, answers) for at, answers in enumerate(self._answers)]
        self._before = [[] for _ in self._steps]
        for at, steps in enumerate(self._steps):
            for deed_at, behind in steps:
                self._before[behind].append(at)
        # All that changes are these two lists: the bays whose changes were seen, and a layer for each number of them.
        self._changes = []
        self._layers = [Layer(self._full[0], self._spread({0: 0}))]

    @property
    def seen(self):
        """The bays whose changes were seen, in order."""
        return tuple(self._changes)

    @property
    def lit(self):
        """The bays whose lamps are lit, ascending."""
        return tuple([bay for bay, mark in zip(self._book.bays, self._layers[-1].marks) if mark])

    @property
    def standings(self):
        """The standings that may stand, in order."""
        return tuple([self._ground.standing_at(at) for at in ascending(self._layers[-1].fewest)])

    def change(self, bay):
        """The lamp of a bay changes."""
        if bay not in self._book.bays:
            raise Never(bay)
        layer = self._layers[-1]
        marks = tuple([mark != (name == bay) for name, mark in zip(self._book.bays, layer.marks)])
        entries = {}
        for at in layer.fewest:
            number = layer.fewest[at] + 1
            for deed_at, behind in self._steps[at]:
                if self._full[behind] == marks and number < entries.get(behind, number + 1):
                    entries[behind] = number
        if not entries:
            raise Never(bay)
        self._changes.append(bay)
        self._layers.append(Layer(marks, self._spread(entries)))

    def undo(self):
        """Forget the last change; whether there was one."""
        if not self._changes:
            return False
        self._changes.pop()
        self._layers.pop()
        return True

    def fates(self, kind):
        """The words of the fates that a coming of a kind has at the standings that may stand, ascending."""
        if kind not in self._book:
            raise NoKind(kind)
        kind_at = self._book.kinds.index(kind)
        return tuple(ascending([fate_word(self._answers[at][kind_at]) for at in self._layers[-1].fewest]))

    def row_to(self, standing):
        """The first row with the fewest deeds that leads to a standing and changes just the lamps seen, in order."""
        at = self._ground.index_of(standing.parts) if isinstance(standing, Standing) else None
        fewest = self._layers[-1].fewest
        if at not in fewest:
            raise Never(standing)
        if fewest[at] > 2000:
            raise TooMany("deeds", 2000)
        return self._ground.row_of(self._first_way(at))

    def _spread(self, entries):
        """The fewest deeds to each standing to which deeds that change no lamp lead from some with their numbers."""
        fewest = {}
        waiting = {}
        for at in entries:
            waiting.setdefault(entries[at], []).append(at)
        number = min([int(entries[at]) for at in entries])
        while waiting:
            ats = waiting.pop(number, [])
            number = number + 1
            for at in ats:
                if at not in fewest:
                    fewest[at] = number - 1
                    calm = [behind for deed_at, behind in self._steps[at] if self._full[behind] == self._full[at]]
                    waiting.setdefault(number, []).extend(calm)
        return fewest

    def _first_way(self, goal):
        """The deeds of the first of the rows with the fewest deeds that lead to a standing of the last layer."""
        towards = self._towards(goal)
        place = (0, 0)
        deed_ats = []
        while place != (len(self._changes), goal):
            number = len(deed_ats) + 1
            steps = [(deed_at, self._next_place(place, behind, 1)) for deed_at, behind in self._steps[place[1]]]
            deed_at, place = [step for step in steps if towards.get(step[1]) == number][0]
            deed_ats.append(deed_at)
        return deed_ats

    def _towards(self, goal):
        """The places, each a layer and a standing there, on the rows with the fewest deeds to one of the last layer.

        A dict from the places to the numbers of the deeds that lead there.
        """
        queue = [(len(self._changes), goal)]
        towards = {place: self._layers[-1].fewest[goal] for place in queue}
        while queue:
            place = queue.pop()
            number = towards[place] - 1
            for before in self._before[place[1]]:
                ahead = self._next_place(place, before, -1)
                if ahead not in towards and ahead[0] >= 0 and self._layers[ahead[0]].fewest.get(before) == number:
                    towards[ahead] = number
                    queue.append(ahead)
        return towards

    def _next_place(self, place, at, more):
        """The place of a standing one deed from a place: in its layer, or one more or less if a lamp changes."""
        layer_at = place[0] if self._full[at] == self._full[place[1]] else place[0] + more
        return (layer_at, at)

    def __len__(self):
        return len(self._changes)

    def __iadd__(self, other):
        self.change(other)
        return self


def fate_word(answer):
    """The word of what a coming does."""
    if answer == Field.BARRED:
        return "barred"
    return "refused" if answer == Field.REFUSED else "goes"
