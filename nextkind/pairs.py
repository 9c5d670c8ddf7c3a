"""What has two parts."""


class Pair:
    """Two parts, of any values."""

    def __init__(self, first, second):
        self._first = first
        self._second = second

    @property
    def first(self):
        """The first part."""
        return self._first

    @property
    def second(self):
        """The second part."""
        return self._second
