"""Papers: tuples that show what serves, what comes about and what a plan tells."""

from nextkind.checks import check_kind
from nextkind.plans import house_at, plan
from nextkind.reach import reach


def serving_paper(book, house, kind=None):
    """The paper that shows whether a house serves a book, or a kind of it."""
    check_kind(book, kind)
    reached = reach(book, house)
    found = reached.refusal(kind)
    if found is None:
        return ("serves", tuple([standing.parts for standing in reached.greatest]))
    return ("refuses", found[0], found[1].parts)


def exact_paper(book, house):
    """The paper that shows what comes about."""
    reached = reach(book, house)
    return ("exact", tuple([(standing.parts, reached.row_to(standing).parts) for standing in reached.greatest]))


def plan_paper(book, kind=None):
    """The paper that shows the plan of a book, or of a kind of it."""
    found = plan(book, kind)
    least = [row_shown(book, numbers, kind) for numbers in found.least]
    greatest = [row_shown(book, numbers, kind) for numbers in found.greatest]
    return ("plan", tuple(least), tuple(greatest))


def sure_paper(found):
    """The paper that shows for how many comings kinds are sure."""
    return ("sure", found.comings, tuple([tuple([standing.parts for standing in some]) for some in found.lists]))


def row_shown(book, numbers, kind):
    """The numbers of a house of a plan, and behind them what the paper of this house tells."""
    enough = book.enough
    filled = [enough[bay] if number is None else number for bay, number in zip(book.bays, numbers)]
    return (numbers,) + serving_paper(book, house_at(book.bays, filled), kind)[1:]
