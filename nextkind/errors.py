"""All errors of the package, each with its arguments in attributes of the same names."""


class NextError(ValueError):
    """The base of all errors."""


class BadName(NextError):
    """A value that is no name where one is asked for."""

    def __init__(self, value):
        self.value = value


class BadNumber(NextError):
    """A value that is no number, or none within the bounds of its place."""

    def __init__(self, value):
        self.value = value


class BadTable(NextError):
    """A value that is no table, or no parts as they are asked for."""

    def __init__(self, value):
        self.value = value


class BadPick(NextError):
    """The argument with this index is no pick."""

    def __init__(self, at):
        self.at = at


class BadRule(NextError):
    """What stands for the rule of this kind is no rule."""

    def __init__(self, kind):
        self.kind = kind


class BadQuota(NextError):
    """What stands as this part is no quota."""

    def __init__(self, part):
        self.part = part


class BadDeed(NextError):
    """The argument with this index is no deed."""

    def __init__(self, at):
        self.at = at


class NoKind(NextError):
    """A value that is none of the kinds."""

    def __init__(self, kind):
        self.kind = kind


class Unlimited(NextError):
    """The quota does not bound this kind."""

    def __init__(self, kind):
        self.kind = kind


class Lacking(NextError):
    """This bay has fewer places than are asked of it."""

    def __init__(self, bay):
        self.bay = bay


class NotThere(NextError):
    """No thing of this kind, or too few of them, stand in this bay."""

    def __init__(self, kind, bay):
        self.kind = kind
        self.bay = bay


class Misfit(NextError):
    """A standing that does not fit, and what of it does not."""

    def __init__(self, part):
        self.part = part


class Barred(NextError):
    """The quota does not let one thing of this kind more."""

    def __init__(self, kind):
        self.kind = kind


class Refused(NextError):
    """A coming of this kind is refused; the bay of the last pick of its rule."""

    def __init__(self, kind, bay):
        self.kind = kind
        self.bay = bay


class Shut(NextError):
    """This bay has no place that is free for what comes."""

    def __init__(self, bay):
        self.bay = bay


class Never(NextError):
    """What never comes about."""

    def __init__(self, value):
        self.value = value


class NotRefused(NextError):
    """A row that does not end in a refusal as told, and where."""

    def __init__(self, at):
        self.at = at


class Unlike(NextError):
    """Two books that differ in this part."""

    def __init__(self, part):
        self.part = part


class TooMany(NextError):
    """More of something than the most that are let."""

    def __init__(self, what, most):
        self.what = what
        self.most = most


class BadText(NextError):
    """The first word of a text that cannot stand, by line and word."""

    def __init__(self, line, word):
        self.line = line
        self.word = word


class BadLine(NextError):
    """The first word of a line of the desk that cannot stand."""

    def __init__(self, word):
        self.word = word
