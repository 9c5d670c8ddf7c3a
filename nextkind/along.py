"""Along one row: a row carried to a smaller house, and two houses led along one row."""

from nextkind.checks import ascending
from nextkind.deeds import Come, Row
from nextkind.errors import NoKind, NotRefused, Unlike
from nextkind.grounds import Walk
from nextkind.joints import Joints, joint_places
from nextkind.standings import Standing


def carried(book, house, bay, row, kind):
    """The row carried to a house from the one with one place more in a bay, behind which a kind is refused."""
    if kind not in book:
        raise NoKind(kind)
    larger = house.put(bay, house[bay] + 1)
    standing = Standing.none()
    kept = []
    lacking = None
    for at, deed in enumerate(row):
        spot = spot_of(book, larger, standing, deed)
        if spot is None:
            raise NotRefused(at)
        is_coming = isinstance(deed, Come)
        standing = standing.with_one(deed.kind, spot) if is_coming else standing.without_one(deed.kind, spot)
        if is_coming and spot == bay and lacking is None:
            lacking = deed.kind
        elif not is_coming and spot == bay and lacking == deed.kind:
            lacking = None
        else:
            kept.append(deed)
    if book.fate(larger, standing, kind) != ("refused",):
        raise NotRefused(len(row))
    return Row(*kept)


def spot_of(book, house, standing, deed):
    """The bay to which a deed leads or out of which it takes a thing; None if it cannot be done."""
    if not isinstance(deed, Come):
        return deed.bay if standing[deed.kind, deed.bay] > 0 else None
    if deed.kind not in book:
        return None
    fate = book.fate(house, standing, deed.kind)
    return fate[1] if fate[0] == "goes" else None


class Beside:
    """Who can be refused first where two houses are led along one row, and what stands in both meanwhile."""

    def __init__(self, here, there, both, greatest):
        self._here = here
        self._there = there
        self._both = both
        self._greatest = greatest

    @property
    def here(self):
        """A pair of a kind and the first deeds behind which only the first house refuses it; None if there is none."""
        return self._here

    @property
    def there(self):
        """The same for the second house alone."""
        return self._there

    @property
    def both(self):
        """The same for both houses at once."""
        return self._both

    @property
    def greatest(self):
        """The parts of the joint standings that come about and are below no other one, ascending."""
        return self._greatest

    def __bool__(self):
        return self._here is None and self._there is None and self._both is None


def beside(book, house, other_book, other_house):
    """Two houses, each with its book, led along one row."""
    if book.kinds != other_book.kinds:
        raise Unlike("kinds")
    if book.quota != other_book.quota:
        raise Unlike("quota")
    places = joint_places(book, house, other_book, other_house)
    joints = Joints(book, other_book, places, 2000)
    walk = Walk(joints, places, [])
    asked = [at for at, kind in enumerate(book)]
    here, there, both = [joints.told(walk.ending(answer, asked)) for answer in (Joints.HERE, Joints.THERE, Joints.BOTH)]
    greatest = ascending([joints.parts_at(at) for at in joints.greatest_of(walk.came)])
    return Beside(here, there, both, tuple(greatest))
