"""Covers: whether each house that serves one book serves another one."""

from nextkind.checks import check_kind
from nextkind.plans import plan


class Covering:
    """Whether all houses of a book serve another one, or the first that does not."""

    def __init__(self, house):
        self._house = house

    @property
    def house(self):
        """The first of the least houses that does not serve, None if all do."""
        return self._house

    def __bool__(self):
        return self._house is None


def covers(one, other, kind=None):
    """Whether each house that serves the other book, or a kind under it, serves the one."""
    check_kind(one, kind)
    check_kind(other, kind)
    served = plan(one, kind)
    houses = [house for house in plan(other, kind).least_houses if house not in served]
    return Covering(houses[0] if houses else None)
