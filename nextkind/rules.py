"""Rules: lists of bays, each with a number of free places that must be kept back."""

from nextkind.checks import ascending, is_name, is_within
from nextkind.errors import BadName, BadNumber, BadPick, BadRule, TooMany
from nextkind.houses import House
from nextkind.pairs import Pair
from nextkind.words import Words


class Rule:
    """The base of all rules, made of checked picks: tuples of a bay and a keep."""

    def __init__(self, picks):
        self._picks = one_form(picks)
        if len(self._picks) > 15:
            raise TooMany("picks", 15)
        # In one form the keeps of a bay fall from pick to pick: its first one is the greatest.
        self._keeps = {bay: keep for bay, keep in self._picks[::-1]}
        self._bays = tuple(ascending(self._keeps))

    @classmethod
    def read(cls, text):
        """The rule with this text, of whatever class."""
        return rule_of_text(text)

    @property
    def picks(self):
        """The one form: a tuple of pairs of a bay and a keep."""
        return self._picks

    @property
    def bays(self):
        """The bays of the one form, ascending."""
        return self._bays

    def keep(self, bay):
        """The greatest keep at a bay, None for what is none of the bays."""
        return self._keeps[bay] if bay in self else None

    def __call__(self, free):
        for bay, keep in self._picks:
            if free[bay] > keep:
                return bay
        return None

    def __contains__(self, x):
        return isinstance(x, str) and x in self._keeps

    def __len__(self):
        return len(self._picks)

    def __iter__(self):
        return iter(self._picks)

    def __or__(self, other):
        return Else(self, other)

    def __add__(self, other):
        if not is_within(other, 0, 9):
            raise BadNumber(other)
        picks = [(bay, keep + other) for bay, keep in self._picks]
        if any([keep > 9 for bay, keep in picks]):
            raise TooMany("keep", 9)
        return First(*picks)

    def __sub__(self, other):
        if not is_name(other):
            raise BadName(other)
        picks = [(bay, keep) for bay, keep in self._picks if bay != other]
        return First(*picks)

    def __eq__(self, other):
        return isinstance(other, Rule) and self._picks == other._picks

    def __str__(self):
        if not self._picks:
            return "-"
        return " or ".join([f"{bay} keep {keep}" if keep > 0 else bay for bay, keep in self._picks])


class First(Rule):
    """The rule with these picks, each a name or a tuple of a name and a keep."""

    def __init__(self, *picks):
        for at, value in enumerate(picks):
            if not is_pick(value):
                raise BadPick(at)
        Rule.__init__(self, [(value, 0) if isinstance(value, str) else value for value in picks])

    @classmethod
    def of(cls, picks):
        """The rule with the picks of a list or tuple."""
        return cls(*picks)

    @classmethod
    def read(cls, text):
        """The rule with this text, of whatever class."""
        return rule_of_text(text)


class Even(Rule):
    """The rule that chooses the bay with the most free places, counted up to a bound."""

    def __init__(self, *bays, most=3):
        seen = {}
        for at, bay in enumerate(bays):
            if not is_name(bay) or bay in seen:
                raise BadPick(at)
            seen[bay] = True
        if not is_within(most, 1, 9):
            raise BadNumber(most)
        Rule.__init__(self, [(bay, keep) for keep in range(most - 1, -1, -1) for bay in bays])

    @classmethod
    def read(cls, text):
        """The rule with this text, of whatever class."""
        return rule_of_text(text)


class Else(Rule, Pair):
    """The rule that chooses as one does, and as the other where one chooses none."""

    def __init__(self, one, other):
        if not isinstance(one, Rule) or not isinstance(other, Rule):
            raise BadRule(None)
        Pair.__init__(self, one, other)
        Rule.__init__(self, list(one) + list(other))

    @classmethod
    def read(cls, text):
        """The rule with this text, of whatever class."""
        return rule_of_text(text)


def is_pick(value):
    """Whether any value is a name, or a tuple of a name and a keep."""
    if isinstance(value, tuple) and len(value) == 2:
        return is_name(value[0]) and is_within(value[1], 0, 9)
    return is_name(value)


def one_form(picks):
    """The picks without those that change nothing, by the two steps that make equal what chooses alike."""
    least = {}
    kept = []
    for bay, keep in picks:
        if bay not in least or keep < least[bay]:
            least[bay] = keep
            kept.append((bay, keep))
    behind = [bay for bay, keep in kept[1:]] + [None]
    return tuple([pick for pick, bay in zip(kept, behind) if pick[0] != bay])


def parting(one, other):
    """The least house of free numbers at which two rules choose unlike bays, None if there is none."""
    # Only the two bays that are chosen need places there, and just so many that a pick opens.
    spots = [(bay, keep + 1) for bay, keep in list(one) + list(other)]
    tables = [{bay: number} for bay, number in spots]
    tables.extend([{low: few, high: many} for low, few in spots for high, many in spots if low < high])
    houses = [House.of(table) for table in tables]
    bays = ascending(list(one.bays) + list(other.bays))
    found = {rank(house, bays): house for house in houses if one(house) != other(house)}
    if not found:
        return None
    return found[ascending(found)[0]]


def rank(house, bays):
    """Where a house stands among those of which the one with the fewest places comes first."""
    return (house.total, tuple([house[bay] for bay in bays]))


def rule_of_text(text):
    """The rule with this text."""
    words = Words(text)
    picks = picks_from(words)
    words.end()
    return First(*picks)


def picks_from(words):
    """The picks that words tell: all up to their end, or none behind a `-`."""
    if words.peek() == "-":
        words.step()
        return []
    picks = [pick_from(words)]
    while words.more():
        words.take_word(("or",))
        picks.append(pick_from(words))
    return picks


def pick_from(words):
    """The pick that the next words tell."""
    bay = words.take_name()
    if words.peek() != "keep":
        return (bay, 0)
    words.step()
    return (bay, words.take_number(1, 9))
