"""Quotas: which counts of things by kind are let."""

from nextkind.checks import ascending, is_name, is_within
from nextkind.errors import BadName, BadNumber, BadQuota, TooMany, Unlimited
from nextkind.pairs import Pair
from nextkind.words import Words


class Quota:
    """The base of all quotas, made of its text, its caps and how they are joined.

    Each cap is a tuple of its most and its kinds. The joints tell with the word `cap` for each cap, in order, and
    the words `both` and `either` behind the two parts that they join.
    """

    def __init__(self, text, caps, joints):
        self._text = text
        self._caps = caps
        self._joints = joints
        self._kinds = tuple(ascending([kind for most, kinds in caps for kind in kinds]))

    @classmethod
    def read(cls, text):
        """The quota with this text, of whatever class."""
        return quota_of_text(text)

    @property
    def kinds(self):
        """The kinds that its caps name, ascending."""
        return self._kinds

    def bounds(self, kind):
        """Whether it bounds a kind."""
        # It does just if it does not let endlessly many: a cap that names the kind lets them no more.
        return not is_let([kind not in kinds for most, kinds in self._caps], self._joints)

    def listed(self, *kinds):
        """The tuples of counts of these kinds that it lets with nothing of other kinds, ascending."""
        check_kinds(self, kinds)
        rows = [((), tuple([0 for _ in self._caps]))]
        for kind in kinds:
            rows = longer_rows(self, rows, kind)
        return tuple([counts for counts, sums in rows])

    def fullest(self, *kinds):
        """The listed tuples that are not below another one."""
        rows = self.listed(*kinds)
        # What is below a tuple that is let is let: a fullest one has none of one thing more.
        let = {counts: True for counts in rows}
        return tuple([row for row in rows if not any([one_more(row, at) in let for at in range(len(row))])])

    def __contains__(self, x):
        return lets_sums(self, [sum([x[kind] for kind in kinds if kind in x]) for most, kinds in self._caps])

    def __len__(self):
        return len(self._caps)

    def __and__(self, other):
        return Both(self, other)

    def __or__(self, other):
        return Either(self, other)

    def __eq__(self, other):
        # The text tells the class and all parts, with the kinds of a cap in one order.
        return isinstance(other, Quota) and self._text == other._text

    def __str__(self):
        return f"{self._text}"


class Cap(Quota):
    """The quota that lets at most so many things of some kinds together."""

    def __init__(self, most, *kinds):
        if not is_within(most, 0, 12):
            raise BadNumber(most)
        check_names(kinds)
        self.most = most
        names = ascending(kinds)
        text = " ".join(["cap", str(most), str(len(names)), *names])
        Quota.__init__(self, text, ((most, tuple(names)),), ("cap",))

    @classmethod
    def read(cls, text):
        """The quota with this text, of whatever class."""
        return quota_of_text(text)


class Both(Quota, Pair):
    """The quota that lets what both of its parts let."""

    def __init__(self, first, second):
        caps = joined_caps(first, second)
        Pair.__init__(self, first, second)
        Quota.__init__(self, f"both {first} {second}", caps, first._joints + second._joints + ("both",))

    @classmethod
    def read(cls, text):
        """The quota with this text, of whatever class."""
        return quota_of_text(text)


class Either(Quota, Pair):
    """The quota that lets what at least one of its parts lets."""

    def __init__(self, first, second):
        caps = joined_caps(first, second)
        Pair.__init__(self, first, second)
        Quota.__init__(self, f"either {first} {second}", caps, first._joints + second._joints + ("either",))

    @classmethod
    def read(cls, text):
        """The quota with this text, of whatever class."""
        return quota_of_text(text)


def joined_caps(first, second):
    """The caps of two values together; raises what a joint of them raises."""
    if not isinstance(first, Quota):
        raise BadQuota("first")
    if not isinstance(second, Quota):
        raise BadQuota("second")
    if len(first) + len(second) > 20:
        raise TooMany("caps", 20)
    return first._caps + second._caps


def check_names(kinds):
    """Raise BadName with the first of some values that is no name or has stood before."""
    seen = {}
    for kind in kinds:
        if not is_name(kind) or kind in seen:
            raise BadName(kind)
        seen[kind] = True


def check_kinds(quota, kinds):
    """Raise what is due unless the quota can list the counts of these kinds."""
    check_names(kinds)
    for kind in kinds:
        if not quota.bounds(kind):
            raise Unlimited(kind)


def is_let(marks, joints):
    """Whether the joints let what each cap lets or not, as the marks tell, cap by cap."""
    held = []
    at = 0
    for word in joints:
        if word == "cap":
            held.append(marks[at])
            at = at + 1
        else:
            second = held.pop()
            first = held.pop()
            held.append((first and second) if word == "both" else (first or second))
    return held[0]


def lets_sums(quota, sums):
    """Whether the quota lets these sums of things, one for each of its caps."""
    return is_let([number <= most for number, (most, kinds) in zip(sums, quota._caps)], quota._joints)


def longer_rows(quota, rows, kind):
    """The rows, counts with the sums of the caps, with each number of one kind more that is let."""
    added = [1 if kind in kinds else 0 for most, kinds in quota._caps]
    longer = []
    for counts, sums in rows:
        number = 0
        while lets_sums(quota, sums):
            if len(longer) == 500:
                raise TooMany("counts", 500)
            longer.append((counts + (number,), sums))
            number = number + 1
            sums = tuple([held + more for held, more in zip(sums, added)])
    return longer


def one_more(row, at):
    """The row with one more at an index."""
    return row[:at] + (row[at] + 1,) + row[at + 1:]


def quota_of_text(text):
    """The quota with this text."""
    words = Words(text)
    steps = steps_from(words)
    words.end()
    return quota_of_steps(steps)


def steps_from(words):
    """The steps of the quota that the next words tell: a joint's word ahead of its parts, most and kinds of a cap."""
    steps = []
    wanted = 1
    while wanted > 0:
        word = words.take_word(("cap", "both", "either"))
        if word == "cap":
            steps.append(cap_from(words))
            wanted = wanted - 1
        else:
            steps.append(word)
            wanted = wanted + 1
    return steps


def cap_from(words):
    """The most and the kinds that the words behind `cap` tell."""
    most = words.take_number(0, 12)
    many = words.take_number(0)
    kinds = []
    while len(kinds) < many:
        kinds.append(words.take_name(kinds[-1] if kinds else ""))
    return (most, kinds)


def quota_of_steps(steps):
    """The quota that steps in the order of its text tell."""
    # From the end on, so that the parts of a joint are made when it is met.
    parts = []
    for step in steps[::-1]:
        if step == "both":
            parts.append(Both(parts.pop(), parts.pop()))
        elif step == "either":
            parts.append(Either(parts.pop(), parts.pop()))
        else:
            most, kinds = step
            parts.append(Cap(most, *kinds))
    return parts[0]
