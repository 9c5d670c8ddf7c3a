"""What several tests need: any values, and a look at the error that a call raises."""

import reprlib

from nextkind.houses import House
from nextkind.pairs import Pair
from nextkind.quotas import Cap
from nextkind.rules import First
from nextkind.standings import Standing

DEEP = [[[[[[[["x"]]]]]]]]
LONG = "a" * 2000
GREAT = 10 ** 60 - 1

NO_NAMES = [None, True, False, 0, 1, -1, 10 ** 79, "", "abcdefghi", "A", "aB", "a1", "1", "a b", " a", "a ", "a\n", "\n",
            "a-b", "~", "a_b", LONG, "none ", (), ("a",), ["a"], {"a": 1}, {}, [], b"a", DEEP, Pair("a", "b")]
NO_NAMES.extend([House(), First(), Cap(0), Standing({}), "{", "`", "@", "[", "z\n", "\nz", "a" * 9, "ab.cd"])
NAMES = ["a", "z", "abcdefgh", "zzzzzzzz", "none", "or", "keep", "cap", "both", "either", "self", "quota", "m"]

NO_NUMBERS = [None, True, False, -1, -10 ** 59, 10 ** 60, 10 ** 79, "", "1", "0", "a", (), (1,), [1], {1: 1}, [], {}]
NO_NUMBERS.extend([LONG, DEEP, b"1", House(a=1), First("a"), Cap(0), Standing({}), Pair(1, 2)])
NUMBERS = [0, 1, 2, 9, 10, 12, 13, 10 ** 20, 10 ** 59, GREAT]

NO_OBJECTS = [None, True, False, 0, 1, -3, 10 ** 79, "", "a", "none", "-", "cap 0 0", LONG, (), ("a",), (("a", 1),),
              [], ["a"], {}, {"a": 1}, DEEP, b"a", Pair(1, 2)]


def error_of(call, *values, **named):
    """The class and the attributes of the error that a call raises, None if it raises none."""
    try:
        call(*values, **named)
    except ValueError as error:
        return (error.__class__.__name__, vars(error))
    return None


def same(one, other):
    """Whether two values are equal and of the same class, also within lists and tuples (1 is not True)."""
    if one is other:
        return True
    if one.__class__ is not other.__class__:
        return False
    if isinstance(one, (list, tuple)):
        return len(one) == len(other) and all(same(x, y) for x, y in zip(one, other))
    return one == other


def check_error(case, told, call, *values, **named):
    """Fail unless the call raises the error told: its name and its fields, a tuple of pairs."""
    found = error_of(call, *values, **named)
    shown = reprlib.repr((told, found, values, named))
    case.assertIsNotNone(found, shown)
    case.assertEqual(found[0], told[0], shown)
    fields = dict(told[1:])
    case.assertEqual(sorted(found[1]), sorted(fields), shown)
    for name in fields:
        case.assertTrue(same(found[1][name], fields[name]), shown)


def bad_text(word):
    """The error of a text of one line whose word with this index cannot stand."""
    return ("BadText", ("line", 0), ("word", word))


def changed_texts(random, text, spare):
    """Texts made from one: words left out, doubled, put in, exchanged or changed, and spaces and signs put in."""
    words = text.split(" ")
    rows = [words]
    for at in range(len(words) + 1):
        rows.append(words[:at])
        for word in random.sample(spare, min(6, len(spare))):
            rows.append(words[:at] + [word] + words[at:])
            rows.append(words[:at] + [word] + words[at + 1:])
        if at < len(words):
            rows.append(words[:at] + words[at + 1:])
            rows.append(words[:at] + [words[at]] + words[at:])
            other = random.randrange(len(words))
            turned = list(words)
            turned[at], turned[other] = turned[other], turned[at]
            rows.append(turned)
            for sign in ("\n", "+", "-", "0", "A", "z"):
                rows.append(words[:at] + [words[at] + sign] + words[at + 1:])
                rows.append(words[:at] + [sign + words[at]] + words[at + 1:])
    return [" ".join(row) for row in rows]


def check_texts(case, read, wrong, texts):
    """Fail unless texts are read and written back, or refused at the word that wrong(words) tells (None: none)."""
    for text in texts:
        at = wrong(text.split(" "))
        if at is None:
            case.assertEqual(str(read(text)), text)
        else:
            check_error(case, bad_text(at), read, text)


def longest(words, can_begin):
    """How many words from the first on can stand: the index of the first that cannot."""
    for many in range(len(words) + 1):
        if not can_begin(words[:many]):
            return many - 1
    return len(words)
