"""Halls: houses in which things come and go."""

from nextkind.checks import is_within
from nextkind.deeds import Come, Go, Row
from nextkind.errors import BadNumber, Barred, NotThere, Refused, Shut
from nextkind.standings import Standing, check_fit


class Moment:
    """What stands in a hall behind a deed; it never changes.

    It tells the moment ahead of the deed (None at first), the deed, the standing, and the bay to which a coming went.
    """

    def __init__(self, before, deed, held, bay):
        self.before = before
        self.deed = deed
        self.held = held
        self.bay = bay


class Trial:
    """A block behind which a hall is as it was when the block began."""

    def __init__(self, hall):
        self._hall = hall
        self._then = None

    def __enter__(self):
        self._then = self._hall._now
        return self._hall

    def __exit__(self, kind, value, trace):
        hall = self._hall
        hall._now = self._then


class Hall:
    """A house in which things come and go by a book."""

    def __init__(self, book, house):
        self._book = book
        self._house = house
        # All that changes is this attribute, so that what was is there again if it is assigned.
        self._now = Moment(None, None, Standing.none(), None)

    @classmethod
    def beginning(cls, book, house, standing):
        """A hall with this standing at first."""
        check_fit(standing, book, house)
        hall = cls(book, house)
        hall._now = Moment(None, None, standing, None)
        return hall

    @property
    def book(self):
        """The book."""
        return self._book

    @property
    def house(self):
        """The house."""
        return self._house

    @property
    def standing(self):
        """What stands there now."""
        return self._now.held

    @property
    def free(self):
        """The house of the free places."""
        return self._now.held.left_free(self._house)

    @property
    def row(self):
        """The row of the deeds done and not undone."""
        deeds = []
        moment = self._now
        while moment.before is not None:
            deeds.append(moment.deed)
            moment = moment.before
        in_order = deeds[::-1]
        return Row(*in_order)

    def come(self, kind):
        """A thing comes; the bay to which it goes."""
        self._now = behind_coming(self, self._now, kind)
        return self._now.bay

    def go(self, kind, bay):
        """A thing goes out of a bay."""
        self._now = behind_going(self._now, kind, bay)

    def fate(self, kind):
        """What a coming of a kind would do."""
        return self._book.fate(self._house, self._now.held, kind)

    def do(self, deed):
        """Do a deed; the bay to which what comes goes, None for a going."""
        self._now = behind(self, self._now, deed)
        return self._now.bay

    def play(self, row):
        """Do the deeds of a row, all or none; the list of what `do` gives for each."""
        moment = self._now
        bays = []
        for deed in row:
            moment = behind(self, moment, deed)
            bays.append(moment.bay)
        self._now = moment
        return bays

    def undo(self):
        """Take back the last deed that is not undone; whether there was one."""
        if self._now.before is None:
            return False
        self._now = self._now.before
        return True

    def trial(self):
        """A block for `with`, behind which the hall is as it was when the block began."""
        return Trial(self)

    def tried(self, work):
        """What a function of the hall gives, called in such a block."""
        with self.trial() as held:
            return work(held)

    def __getitem__(self, at):
        return self._now.held[at]

    def __setitem__(self, at, worth):
        kind, bay = at
        there = self._now.held[kind, bay]
        if there == 0:
            raise NotThere(kind, bay)
        if not is_within(worth, 0, there):
            raise BadNumber(worth)
        for _ in range(there - worth):
            self.go(kind, bay)

    def __contains__(self, x):
        return self._now.held.of_kind(x) > 0

    def __len__(self):
        return len([pair for pair in self._now.held for _ in range(self._now.held[pair])])

    def __iter__(self):
        raise TypeError("a hall is not iterated over")

    def __iadd__(self, other):
        self.come(other)
        return self

    def __isub__(self, other):
        kind, bay = other
        self.go(kind, bay)
        return self


def behind(hall, moment, deed):
    """The moment behind a deed."""
    if isinstance(deed, Come):
        return behind_coming(hall, moment, deed.kind)
    return behind_going(moment, deed.kind, deed.bay)


def behind_coming(hall, moment, kind):
    """The moment behind a coming; raises NoKind for any value that is no kind, and what else is due."""
    fate = hall.book.fate(hall.house, moment.held, kind)
    if fate == ("barred",):
        raise Barred(kind)
    if fate == ("refused",):
        picks = hall.book[kind].picks
        if not picks:
            raise Refused(kind, None) from None
        bay = picks[-1][0]
        raise Refused(kind, bay) from Shut(bay)
    bay = fate[1]
    return Moment(moment, Come(kind), moment.held.with_one(kind, bay), bay)


def behind_going(moment, kind, bay):
    """The moment behind a going; raises NotThere for any values of which none is there."""
    if moment.held[kind, bay] == 0:
        raise NotThere(kind, bay)
    return Moment(moment, Go(kind, bay), moment.held.without_one(kind, bay), None)
