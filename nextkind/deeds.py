"""Deeds and rows: what comes and goes, one after another."""

from nextkind.checks import is_name, is_within
from nextkind.errors import BadDeed, BadName, BadTable, TooMany
from nextkind.words import Words


# What the interface lists for each deed stands in the body of each of the three classes.
class Deed:
    """The base of all deeds, made of its parts."""

    def __init__(self, *parts):
        self._parts = parts

    @property
    def parts(self):
        """The tuple of the words of its text."""
        return self._parts

    def __eq__(self, other):
        return isinstance(other, Deed) and self._parts == other._parts

    def __str__(self):
        return " ".join(self._parts)


class Come(Deed):
    """A thing of a kind comes."""

    def __init__(self, kind):
        check_name(kind)
        Deed.__init__(self, "come", kind)
        self.kind = kind

    @property
    def parts(self):
        """The tuple of `come` and the kind."""
        return ("come", self.kind)

    def __eq__(self, other):
        return isinstance(other, Come) and self.kind == other.kind

    def __str__(self):
        return f"come {self.kind}"


class Go(Deed):
    """A thing of a kind goes out of a bay."""

    def __init__(self, kind, bay):
        check_name(kind)
        check_name(bay)
        Deed.__init__(self, "go", kind, bay)
        self.kind = kind
        self.bay = bay

    @property
    def parts(self):
        """The tuple of `go`, the kind and the bay."""
        return ("go", self.kind, self.bay)

    def __eq__(self, other):
        return isinstance(other, Go) and self.kind == other.kind and self.bay == other.bay

    def __str__(self):
        return f"go {self.kind} {self.bay}"


class Row:
    """Deeds done one after another."""

    def __init__(self, *deeds):
        for at, deed in enumerate(deeds):
            if not isinstance(deed, Deed):
                raise BadDeed(at)
        if len(deeds) > 2000:
            raise TooMany("deeds", 2000)
        self._deeds = deeds

    @classmethod
    def of(cls, deeds):
        """The row of the deeds of a list or tuple."""
        return cls(*deeds)

    @classmethod
    def read(cls, text):
        """The row with this text."""
        words = Words(text)
        deeds = deeds_from(words)
        words.end()
        return cls(*deeds)

    @classmethod
    def from_parts(cls, parts):
        """The row with these parts."""
        if not isinstance(parts, tuple) or len(parts) > 2000:
            raise BadTable(parts)
        if not all([is_deed_parts(part) for part in parts]):
            raise BadTable(parts)
        deeds = [Come(part[1]) if part[0] == "come" else Go(part[1], part[2]) for part in parts]
        return cls(*deeds)

    @property
    def parts(self):
        """The tuple of the parts of its deeds, in order."""
        return tuple([deed.parts for deed in self._deeds])

    @property
    def comings(self):
        """How many of the deeds are comings."""
        return len([deed for deed in self._deeds if isinstance(deed, Come)])

    def until(self, k):
        """The row of the first k deeds, all if there are fewer."""
        deeds = self._deeds[:k]
        return Row(*deeds)

    def __getitem__(self, at):
        if not is_within(at, 0, len(self._deeds) - 1):
            raise BadDeed(at)
        return self._deeds[at]

    def __len__(self):
        return len(self._deeds)

    def __iter__(self):
        return iter(self._deeds)

    def __add__(self, other):
        deeds = self._deeds + ((other,) if isinstance(other, Deed) else other._deeds)
        return Row(*deeds)

    def __eq__(self, other):
        return isinstance(other, Row) and self._deeds == other._deeds

    def __str__(self):
        if not self._deeds:
            return "none"
        return " ; ".join([str(deed) for deed in self._deeds])


def check_name(value):
    """Raise BadName unless any value is a name."""
    if not is_name(value):
        raise BadName(value)


def is_deed_parts(value):
    """Whether any value is the parts of a deed."""
    if not isinstance(value, tuple):
        return False
    if len(value) == 2:
        return value[0] == "come" and is_name(value[1])
    return len(value) == 3 and value[0] == "go" and is_name(value[1]) and is_name(value[2])


def deeds_from(words):
    """The deeds that words tell: all up to their end, or none behind a `none`."""
    if words.peek() == "none":
        words.step()
        return []
    deeds = [deed_from(words)]
    while words.more():
        words.take_word((";",))
        deeds.append(deed_from(words))
    return deeds


def deed_from(words):
    """The deed that the next words tell."""
    word = words.take_word(("come", "go"))
    kind = words.take_name()
    if word == "come":
        return Come(kind)
    return Go(kind, words.take_name())
