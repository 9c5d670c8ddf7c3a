"""Books: a quota and a rule for each kind; all but the numbers of places."""

from nextkind.checks import ascending, is_name
from nextkind.errors import BadName, BadQuota, BadRule, BadTable, NoKind, TooMany
from nextkind.houses import house_with
from nextkind.quotas import Quota
from nextkind.rules import Rule
from nextkind.standings import check_fit


class Book:
    """A quota and the rules by kind."""

    def __init__(self, quota, **rules):
        if not isinstance(quota, Quota):
            raise BadQuota("quota")
        self._fill(quota, rules)

    @classmethod
    def of(cls, quota, table):
        """The book of a quota and a table from kinds to rules."""
        book = cls(quota)
        if not isinstance(table, dict):
            raise BadTable(table)
        # Not cls(quota, **table): a keyword cannot be called like the parameters.
        book._fill(quota, table)
        return book

    def _fill(self, quota, table):
        """Take over the rules of a table, as the book is made."""
        self._quota = quota
        self._rules = rules_told(table)
        self._kinds = tuple(self._rules)
        self._bays = bays_told(self._rules)
        self._pairs = tuple([(kind, bay) for kind in self._kinds for bay in self._rules[kind].bays])
        self._counts = quota.listed(*self._kinds)
        self._let = {counts: True for counts in self._counts}

    @property
    def quota(self):
        """The quota."""
        return self._quota

    @property
    def kinds(self):
        """The kinds, ascending."""
        return self._kinds

    @property
    def bays(self):
        """The bays of all rules, ascending."""
        return self._bays

    @property
    def pairs(self):
        """The pairs of a kind and a bay of its rule, ascending."""
        return self._pairs

    @property
    def enough(self):
        """The house that is enough: with more places in a bay nothing is done otherwise."""
        return house_with({bay: enough_in(self, bay) for bay in self._bays})

    def at_once(self, *kinds):
        """The greatest number of things of these kinds together that the quota lets at once."""
        for kind in kinds:
            if kind not in self:
                raise NoKind(kind)
        places = [at for at, kind in enumerate(self._kinds) if kind in kinds]
        return max([int(sum([counts[at] for at in places])) for counts in self._counts])

    def lets(self, counts):
        """Whether the quota lets a tuple of counts, one for each kind in order."""
        return counts in self._let

    def exchanged(self, kind, rule):
        """The book with another rule for a kind, or with a kind more."""
        if not is_name(kind):
            raise BadName(kind)
        return Book.of(self._quota, {**self._rules, kind: rule})

    def without(self, kind):
        """The book without a kind."""
        if kind not in self:
            raise NoKind(kind)
        return Book.of(self._quota, {name: self._rules[name] for name in self._kinds if name != kind})

    def under(self, quota):
        """The book with another quota."""
        return Book.of(quota, self._rules)

    def fate(self, house, standing, kind):
        """What a coming of a kind does at a standing."""
        rule = self[kind]
        check_fit(standing, self, house)
        if not self.lets(tuple([standing.of_kind(name) + (1 if name == kind else 0) for name in self._kinds])):
            return ("barred",)
        bay = rule(standing.left_free(house))
        if bay is None:
            return ("refused",)
        return ("goes", bay)

    def __getitem__(self, at):
        if at not in self:
            raise NoKind(at)
        return self._rules[at]

    def __contains__(self, x):
        return isinstance(x, str) and x in self._rules

    def __len__(self):
        return len(self._kinds)

    def __iter__(self):
        return iter(self._kinds)

    def __eq__(self, other):
        return isinstance(other, Book) and self._quota == other._quota and self._rules == other._rules


def rules_told(table):
    """The rules of a table, ascending by kind."""
    for key in table:
        if not is_name(key):
            raise BadName(key)
    kinds = ascending(table)
    for kind in kinds:
        if not isinstance(table[kind], Rule):
            raise BadRule(kind)
    if len(kinds) > 5:
        raise TooMany("kinds", 5)
    return {kind: table[kind] for kind in kinds}


def bays_told(rules):
    """The bays of all rules of a dict, ascending."""
    bays = ascending([bay for kind in rules for bay in rules[kind].bays])
    if len(bays) > 5:
        raise TooMany("bays", 5)
    return tuple(bays)


def enough_in(book, bay):
    """How many places are enough in a bay of a book."""
    kinds = [kind for kind in book if bay in book[kind]]
    most = book.at_once(*kinds)
    if most == 0:
        return 0
    return most + max([int(book[kind].keep(bay)) for kind in kinds])
