"""What a name, a number and a kind that is asked for are, and how tables from keys to numbers are taken over."""

from nextkind.errors import BadNumber, NoKind


def is_name(value):
    """Whether any value is a string of 1 to 8 letters from a to z."""
    if not isinstance(value, str) or not 1 <= len(value) <= 8:
        return False
    return all(["a" <= sign <= "z" for sign in value])


def is_within(value, least, most):
    """Whether any value is an integer from least to most."""
    # True and False are integers to Python, but not here.
    if not isinstance(value, int) or isinstance(value, bool):
        return False
    return least <= value <= most


def is_number(value):
    """Whether any value is an integer from 0 with at most 60 digits."""
    return is_within(value, 0, 10 ** 60 - 1)


def ascending(things):
    """The list of some names, or tuples of names and numbers, each once, ascending."""
    return sorted(set(list(things)))


def numbers_told(table):
    """The numbers from 1 of a table, ascending by its keys, which the caller has checked."""
    keys = ascending(table)
    for key in keys:
        if not is_number(table[key]):
            raise BadNumber(table[key])
    return {key: table[key] for key in keys if table[key] > 0}


def check_kind(book, kind):
    """Raise NoKind unless any value is a kind of a book, or None for all of them."""
    if kind is not None and kind not in book:
        raise NoKind(kind)
