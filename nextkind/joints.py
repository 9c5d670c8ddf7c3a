"""Joint standings: where each thing stands in each of two houses that are led along one row."""

from nextkind.grounds import Field, indexes, places_of


class Joints(Field):
    """The joint standings that fit, told by their indexes in order: nothing at all is 0.

    The bays of both houses, those of the first one ahead, stand in one tuple. A spot is a kind, a bay here and a bay
    there: a thing takes a place in both.
    """

    HERE = -3
    THERE = -4
    BOTH = -5

    def __init__(self, book, other_book, places, most):
        spots = joint_spots(book, other_book)
        Field.__init__(self, book, spots, places, most)
        bays = book.bays + other_book.bays
        self._triples = [(book.kinds[kind_at], bays[here], bays[there]) for kind_at, (here, there) in spots]
        self._triple_ats = indexes(spots)
        self._moves = [("come", kind) for kind in book] + [("go",) + triple for triple in self._triples]
        self._picks_here = [picks_behind(book, kind, 0) for kind in book]
        self._picks_there = [picks_behind(other_book, kind, len(book.bays)) for kind in book]

    def answer(self, places, at, kind_at):
        """What a coming does: the spot at which the thing stands then, where it is refused, or BARRED."""
        if not self._let[at][kind_at]:
            return Field.BARRED
        here = chosen(places, self._taken[at], self._picks_here[kind_at])
        there = chosen(places, self._taken[at], self._picks_there[kind_at])
        if here is None and there is None:
            return Joints.BOTH
        if here is None:
            return Joints.HERE
        if there is None:
            return Joints.THERE
        return self._triple_ats[kind_at, (here, there)]

    def answers(self, places, at):
        """What a coming of each kind does, in order."""
        return [self.answer(places, at, kind_at) for kind_at in range(len(self._picks_here))]

    def told(self, found):
        """A pair of a kind and deeds, told by their indexes, by their names; None as it is."""
        if found is None:
            return None
        kind_at, deed_ats = found
        return (self._moves[kind_at][1], tuple([self._moves[deed_at] for deed_at in deed_ats]))

    def parts_at(self, at):
        """The parts of the joint standing with this index."""
        return tuple([triple + (number,) for triple, number in zip(self._triples, self._numbers[at]) if number > 0])


def joint_places(book, house, other_book, other_house):
    """The numbers of places in the bays of two books, those of the first one ahead."""
    return places_of(book, house) + places_of(other_book, other_house)


def joint_spots(book, other_book):
    """The spots of two books with the same kinds, ascending."""
    spots = []
    for kind_at, kind in enumerate(book):
        bay_ats = [book.bays.index(bay) for bay in book[kind].bays]
        other_ats = [len(book.bays) + other_book.bays.index(bay) for bay in other_book[kind].bays]
        spots.extend([(kind_at, (here, there)) for here in bay_ats for there in other_ats])
    return spots


def picks_behind(book, kind, many):
    """The picks of a kind's rule: each the index of the bay, behind so many others, and the keep."""
    return [(many + book.bays.index(bay), keep) for bay, keep in book[kind]]


def chosen(places, taken, picks):
    """The bay of the first open pick, None if none is open."""
    for bay_at, keep in picks:
        if places[bay_at] - taken[bay_at] > keep:
            return bay_at
    return None
