"""The standings that fit a book and a house, numbered, the deeds that lead from one to another, and walks there."""

from nextkind.checks import ascending, is_number
from nextkind.deeds import Come, Go, Row
from nextkind.standings import changed, rows_at, spots_of, standing_with


class Field:
    """Things at spots (see `rows_at`), in each way that fits, told by their indexes in order: nothing at all is 0.

    Deeds are told by their indexes, too: that of the kind for a coming, and behind all kinds that of the spot for a
    going. What a coming does, its answer, is the index of the spot at which the thing stands then, or less than 0.
    """

    REFUSED = -1
    BARRED = -2

    def __init__(self, book, spots, tops, most):
        rows = rows_at(book, spots, tops, most)
        self._numbers = [numbers for numbers, counts, free in rows]
        self._counts = [counts for numbers, counts, free in rows]
        self._ats = indexes(self._numbers)
        self._let = [lets_more(book, counts) for counts in self._counts]
        self._taken = [tuple([top - left for top, left in zip(tops, free)]) for numbers, counts, free in rows]
        self._under = [self._one_less(numbers) for numbers in self._numbers]
        self._above = [{} for _ in rows]
        for at, under in enumerate(self._under):
            for spot_at in under:
                self._above[under[spot_at]][spot_at] = at

    def _one_less(self, numbers):
        """The standings with one thing less than these numbers, by the spot of this thing."""
        spot_ats = [spot_at for spot_at, number in enumerate(numbers) if number > 0]
        return {spot_at: self._ats[changed(numbers, spot_at, -1)] for spot_at in spot_ats}

    def all_ats(self):
        """The indexes of all standings."""
        return list(range(len(self._numbers)))

    def counts_at(self, at):
        """How many things of each kind a standing has."""
        return self._counts[at]

    def steps(self, at, answers):
        """The pairs of a deed and the standing behind it, in order, where comings do what the answers tell."""
        above = self._above[at]
        comings = [(kind_at, above[answer]) for kind_at, answer in enumerate(answers) if answer >= 0]
        under = self._under[at]
        return comings + [(len(answers) + spot_at, under[spot_at]) for spot_at in under]

    def behind_comings(self, at, answers):
        """The standings behind the comings that go somewhere, as the answers tell."""
        return [self._above[at][answer] for answer in answers if answer >= 0]

    def below_all(self, tops):
        """The standings below some, and these themselves: a dict of True."""
        inside = {at: True for at in tops}
        queue = list(inside)
        while queue:
            under = self._under[queue.pop()]
            for spot_at in under:
                if under[spot_at] not in inside:
                    inside[under[spot_at]] = True
                    queue.append(under[spot_at])
        return inside

    def greatest_of(self, inside):
        """Those of some standings, with all that is below them, that are below no other one, ascending."""
        return [at for at in ascending(inside) if not any([more in inside for more in list(self._above[at].values())])]


class Ground(Field):
    """The standings that fit, in the order of `fitting`: a spot is a pair, and the empty one is 0.

    The places, a number for each bay, are those of the house or of one that is at most it: what fits that one fits
    the house, so a plan needs one ground.
    """

    def __init__(self, book, house, most):
        Field.__init__(self, book, spots_of(book), places_of(book, house), most)
        self._pairs = book.pairs
        self._pair_ats = indexes(book.pairs)
        self._kind_ats = indexes(book.kinds)
        self._deeds = [Come(kind) for kind in book] + [Go(kind, bay) for kind, bay in book.pairs]
        self._deed_ats = indexes([deed.parts for deed in self._deeds])
        self._picks = [picks_at(book, kind) for kind in book]

    def asked(self, kind):
        """The indexes of the kinds asked for: all if the kind is None."""
        return [self._kind_ats[name] for name in self._kind_ats if kind in (None, name)]

    def answer(self, places, at, kind_at):
        """What a coming does: the pair at which the thing stands then, REFUSED or BARRED."""
        if not self._let[at][kind_at]:
            return Field.BARRED
        taken = self._taken[at]
        for bay_at, keep, pair_at in self._picks[kind_at]:
            if places[bay_at] - taken[bay_at] > keep:
                return pair_at
        return Field.REFUSED

    def answers(self, places, at):
        """What a coming of each kind does, in order."""
        return [self.answer(places, at, kind_at) for kind_at in range(len(self._picks))]

    def kind_of(self, value):
        """The kind that any value names, None if it names none."""
        return self._kind_ats.get(value) if isinstance(value, str) else None

    def behind(self, places, at, part):
        """The standing behind the deed with these parts, None for any value that is no deed there."""
        if not isinstance(part, tuple) or not all([isinstance(word, str) for word in part]):
            return None
        deed_at = self._deed_ats.get(part)
        if deed_at is None:
            return None
        if deed_at >= len(self._picks):
            return self._under[at].get(deed_at - len(self._picks))
        answer = self.answer(places, at, deed_at)
        return self._above[at][answer] if answer >= 0 else None

    def fits_in(self, places, at):
        """Whether a standing fits these places."""
        return all([number <= place for number, place in zip(self._taken[at], places)])

    def full_bays(self, places, at):
        """For each bay whether a standing leaves it without a free place."""
        return tuple([number == place for number, place in zip(self._taken[at], places)])

    def index_of(self, parts):
        """The standing with these parts, None for any value that is not the parts of one that fits."""
        if not isinstance(parts, tuple):
            return None
        numbers = [0 for _ in self._pairs]
        last = -1
        for part in parts:
            pair_at = self._pair_told(part)
            # The pairs ascend with their indexes: so must those of the parts.
            if pair_at is None or pair_at <= last:
                return None
            numbers[pair_at] = part[2]
            last = pair_at
        return self._ats.get(tuple(numbers))

    def _pair_told(self, part):
        """The pair of any value that is a triple of a pair of the book and a number from 1, None for others."""
        if not isinstance(part, tuple) or len(part) != 3:
            return None
        if not (isinstance(part[0], str) and isinstance(part[1], str) and is_number(part[2]) and part[2] > 0):
            return None
        return self._pair_ats.get((part[0], part[1]))

    def standing_at(self, at):
        """The standing with this index."""
        return standing_with({pair: number for pair, number in zip(self._pairs, self._numbers[at]) if number > 0})

    def row_of(self, deed_ats):
        """The row of the deeds with these indexes."""
        deeds = [self._deeds[deed_at] for deed_at in deed_ats]
        return Row(*deeds)


class Walk:
    """A walk from a standing through all that steps lead to, to each by the row with the fewest deeds, the first.

    The field is asked with the places what comings do, and for the steps. The walk goes on until one of the kinds
    asked is found refused. What it tells by the indexes of standings: `came`, the standing ahead and the deed behind
    it by which this one was met first; `onward`, the steps from there. By an answer below 0 and the index of a kind:
    `stops`, the first standing that was met at which a coming of the kind does this.
    """

    def __init__(self, field, places, asked, start=0):
        self._start = start
        self.came = {start: (start, None)}
        self.onward = {}
        self.stops = {}
        queue = [start]
        # Each standing of the queue has its steps once it is done with, so these tell how many are.
        while len(self.onward) < len(queue) and not self.is_stopped(asked):
            at = queue[len(self.onward)]
            answers = field.answers(places, at)
            for kind_at, answer in enumerate(answers):
                if answer < 0 and (answer, kind_at) not in self.stops:
                    self.stops[answer, kind_at] = at
            self.onward[at] = field.steps(at, answers)
            for deed_at, behind in self.onward[at]:
                if behind not in self.came:
                    self.came[behind] = (at, deed_at)
                    queue.append(behind)

    def is_stopped(self, asked):
        """Whether one of the kinds asked was found refused."""
        return any([(Field.REFUSED, kind_at) in self.stops for kind_at in asked])

    def way_to(self, at):
        """The deeds that lead to a standing that was met."""
        deed_ats = []
        while at != self._start:
            at, deed_at = self.came[at]
            deed_ats.append(deed_at)
        return deed_ats[::-1]

    def ending(self, answer, asked):
        """The kind, of those asked, whose coming does this behind the fewest deeds, the least alike, and these deeds.

        None if a coming of none of them does it.
        """
        best = None
        for kind_at in asked:
            if (answer, kind_at) in self.stops:
                deed_ats = self.way_to(self.stops[answer, kind_at])
                if best is None or len(deed_ats) < len(best[1]):
                    best = (kind_at, deed_ats)
        return best


def indexes(things):
    """The dict from each of some things to its index."""
    return {thing: at for at, thing in enumerate(things)}


def places_of(book, house):
    """The numbers of places of a house in the bays of a book, in order."""
    return tuple([house[bay] for bay in book.bays])


def picks_at(book, kind):
    """The picks of a kind's rule: the bay, the keep, and the pair of the kind and the bay."""
    return [(book.bays.index(bay), keep, book.pairs.index((kind, bay))) for bay, keep in book[kind]]


def lets_more(book, counts):
    """For each kind, whether the quota lets one thing of it more than these counts."""
    return [book.lets(changed(counts, kind_at, 1)) for kind_at in range(len(counts))]
