"""The desk: a book, a house and a hall of them, asked by lines."""

from nextkind.books import Book
from nextkind.errors import BadLine
from nextkind.halls import Hall
from nextkind.houses import House, places_from
from nextkind.limits import limits
from nextkind.plans import plan
from nextkind.quotas import Cap, quota_of_steps, steps_from
from nextkind.reach import reach
from nextkind.rules import First, picks_from
from nextkind.standings import Standing
from nextkind.sure import sure
from nextkind.texts import book_text
from nextkind.words import LineWords


class Page:
    """What a desk has behind a line: the book, the house and what stands in the hall; it never changes.

    `before` is the page ahead of the line, None at first.
    """

    def __init__(self, before, the_book, the_house, held):
        self.before = before
        self.the_book = the_book
        self.the_house = the_house
        self.held = held


class Desk:
    """A quota and rules that make a book, a house, and a hall of them."""

    def __init__(self):
        # All that changes is this attribute, so that what was is there again if it is assigned.
        self._now = Page(None, Book(Cap(0)), House.none(), Standing.none())

    @property
    def book(self):
        """The book."""
        return self._now.the_book

    @property
    def house(self):
        """The house."""
        return self._now.the_house

    @property
    def standing(self):
        """What stands in the hall."""
        return self._now.held

    def ask(self, line):
        """Carry out a line; its answer."""
        page, told = carried_out(self._now, line)
        self._now = page
        return told

    def run(self, *lines):
        """Carry out lines, all or none; the list of their answers."""
        page = self._now
        answers = []
        for line in lines:
            page, told = carried_out(page, line)
            answers.append(told)
        self._now = page
        return answers

    def __call__(self, line):
        return self.ask(line)

    def __len__(self):
        return len(pages_until(self._now))


def pages_until(page):
    """The pages behind the first one, up to this one."""
    pages = []
    while page.before is not None:
        pages.append(page)
        page = page.before
    return pages


def put_house(page, words):
    """Carry out `house HOUSE`."""
    house = House.of(places_from(words))
    return (Page(page, page.the_book, house, Standing.none()), "ok")


def put_quota(page, words):
    """Carry out `quota QUOTA`."""
    steps = steps_from(words)
    words.end()
    return (page_with(page, page.the_book.under(quota_of_steps(steps))), "ok")


def put_kind(page, words):
    """Carry out `kind NAME RULE`."""
    kind = words.take_name()
    picks = picks_from(words)
    words.end()
    return (page_with(page, page.the_book.exchanged(kind, First.of(picks))), "ok")


def drop_kind(page, words):
    """Carry out `drop NAME`."""
    kind = words.take_name()
    words.end()
    return (page_with(page, page.the_book.without(kind)), "ok")


def page_with(page, the_book):
    """The page behind one on which this is the book: the hall is empty then."""
    return Page(page, the_book, page.the_house, Standing.none())


def let_come(page, words):
    """Carry out `come NAME`."""
    kind = words.take_name()
    words.end()
    hall = hall_of(page)
    bay = hall.come(kind)
    return (Page(page, page.the_book, page.the_house, hall.standing), f"to {bay}")


def let_go(page, words):
    """Carry out `go NAME BAY`."""
    kind = words.take_name()
    bay = words.take_name()
    words.end()
    hall = hall_of(page)
    hall.go(kind, bay)
    return (Page(page, page.the_book, page.the_house, hall.standing), "ok")


def hall_of(page):
    """The hall of a page."""
    return Hall.beginning(page.the_book, page.the_house, page.held)


def take_back(page, words):
    """Carry out `undo`."""
    words.end()
    if page.before is None:
        return (page, "nothing")
    return (page.before, "ok")


def show_book(page, words):
    """Carry out `show`."""
    words.end()
    return (page, book_text(page.the_book).replace("\n", " ; "))


def show_places(page, words):
    """Carry out `places`."""
    words.end()
    return (page, str(page.the_house))


def show_things(page, words):
    """Carry out `things`."""
    words.end()
    return (page, str(page.held))


def show_enough(page, words):
    """Carry out `enough`."""
    words.end()
    return (page, str(page.the_book.enough))


def show_fate(page, words):
    """Carry out `fate NAME`."""
    kind = words.take_name()
    words.end()
    return (page, " ".join(hall_of(page).fate(kind)))


def show_serving(page, words):
    """Carry out `serves` or `serves NAME`."""
    kind = name_at_end(words)
    found = reach(page.the_book, page.the_house).refusal(kind)
    return (page, "serves" if found is None else f"refuses {found[0]} behind {found[1]}")


def show_plan(page, words):
    """Carry out `plan` or `plan NAME`."""
    found = plan(page.the_book, name_at_end(words))
    return (page, f"least {rows_text(found.least)} greatest {rows_text(found.greatest)}")


def show_limits(page, words):
    """Carry out `limits`."""
    words.end()
    found = limits(page.the_book, page.the_house)
    return (page, f"greatest {rows_text(found.greatest)} least {rows_text(found.least)}")


def show_sure(page, words):
    """Carry out `sure` or `sure NAME`."""
    found = sure(page.the_book, page.the_house, page.held, name_at_end(words))
    return (page, "always" if found.comings is None else str(found.comings))


def name_at_end(words):
    """The name that is all that is left, None if nothing is."""
    name = words.take_name() if words.more() else None
    words.end()
    return name


def rows_text(rows):
    """The text of tuples of numbers, with None for any number."""
    return " / ".join([row_text(row) for row in rows]) if rows else "none"


def row_text(row):
    """The text of a tuple of numbers."""
    return " ".join(["any" if number is None else str(number) for number in row]) if row else "-"


LINES = {
    "house": put_house, "quota": put_quota, "kind": put_kind, "drop": drop_kind, "come": let_come, "go": let_go,
    "undo": take_back, "show": show_book, "places": show_places, "things": show_things, "enough": show_enough,
    "fate": show_fate, "serves": show_serving, "plan": show_plan, "limits": show_limits, "sure": show_sure,
}


def carried_out(page, line):
    """The page behind a line, any value, and the answer."""
    if not isinstance(line, str):
        raise BadLine(0)
    words = LineWords(line)
    action = LINES[words.take_word(list(LINES))]
    return action(page, words)
