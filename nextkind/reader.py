"""The reader of the texts of books."""

from nextkind.books import Book
from nextkind.errors import BadText
from nextkind.quotas import quota_of_steps, steps_from
from nextkind.rules import First, picks_from
from nextkind.words import Words


def read_book(text):
    """The book with this text."""
    if not isinstance(text, str):
        raise BadText(0, 0)
    lines = text.split("\n")
    steps = quota_steps_from(Words(lines[0]))
    told = {}
    kind = ""
    for at, line in enumerate(lines[1:]):
        words = Words(line, at + 1)
        words.take_word(("kind",))
        kind = words.take_name(kind)
        told[kind] = picks_from(words)
        words.end()
    quota = quota_of_steps(steps)
    rules = {}
    for name in told:
        rules[name] = First.of(told[name])
    return Book.of(quota, rules)


def quota_steps_from(words):
    """The steps of the quota that the words of the first line tell."""
    words.take_word(("quota",))
    steps = steps_from(words)
    words.end()
    return steps
