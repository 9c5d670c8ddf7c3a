"""Lookers: whether any value is a paper that shows what it tells. They play and add, and search nothing."""

from nextkind.checks import check_kind, is_number, is_within
from nextkind.grounds import Field, Ground, places_of
from nextkind.houses import risen
from nextkind.plans import highest, is_above_one, is_most, lowest, tops_of
from nextkind.standings import Standing, check_fit


def shows_serving(book, house, paper, kind=None):
    """Whether a paper shows that a house serves a book, or a kind of it, or that it does not."""
    check_kind(book, kind)
    ground = Ground(book, house, 2000)
    return is_serving_shown(ground, places_of(book, house), ground.asked(kind), paper)


def shows_exact(book, house, paper):
    """Whether a paper shows the greatest standings that come about."""
    ground = Ground(book, house, 2000)
    places = places_of(book, house)
    if not is_paper(paper, "exact", 2) or not are_tuples(paper[1], 2):
        return False
    tops = [ground.index_of(parts) for parts, row in paper[1]]
    if not tops or any([top is None for top in tops]):
        return False
    inside = ground.below_all(tops)
    # No more than these come about, as no coming leads out of what is below them, and no fewer, as the rows show.
    if ground.greatest_of(inside) != tops or not is_kept(ground, places, [], inside, inside):
        return False
    return all([place_behind(ground, places, row) == top for (parts, row), top in zip(paper[1], tops)])


def shows_plan(book, paper, kind=None):
    """Whether a paper shows the plan of a book, or of a kind of it."""
    check_kind(book, kind)
    tops = tops_of(book)
    ground = Ground(book, book.enough, 400)
    if not is_paper(paper, "plan", 3) or not are_tuples(paper[1], 2) or not are_tuples(paper[2], 3):
        return False
    least = [least_told(item[0], tops) for item in paper[1]]
    greatest = [greatest_told(item[0], tops) for item in paper[2]]
    if None in least or None in greatest or not is_whole(least, greatest, tops):
        return False
    told = [(numbers, ("serves", item[1])) for numbers, item in zip(least, paper[1])]
    told.extend([(numbers, ("refuses", item[1], item[2])) for numbers, item in zip(greatest, paper[2])])
    asked = ground.asked(kind)
    for numbers, part in told:
        if not is_serving_shown(ground, numbers, asked, part):
            return False
    return True


def shows_sure(book, house, standing, paper, kind=None):
    """Whether a paper shows for how many comings all kinds, or one, are sure at a standing (None: the empty one)."""
    check_kind(book, kind)
    start = Standing.none() if standing is None else standing
    check_fit(start, book, house)
    ground = Ground(book, house, 2000)
    if not is_paper(paper, "sure", 3) or not isinstance(paper[2], tuple) or len(paper[2]) > 2000:
        return False
    comings, lists = paper[1], paper[2]
    if comings is None:
        return len(lists) > 0 and are_sure(ground, places_of(book, house), ground.asked(kind), start, lists, True)
    if not is_number(comings) or comings != len(lists):
        return False
    return comings == 0 or are_sure(ground, places_of(book, house), ground.asked(kind), start, lists, False)


def is_paper(value, word, size):
    """Whether any value is a tuple of so many parts that begins with a word."""
    return isinstance(value, tuple) and len(value) == size and value[0] == word


def are_tuples(value, size):
    """Whether any value is a tuple of at most 2,000 tuples of so many parts."""
    if not isinstance(value, tuple) or len(value) > 2000:
        return False
    return all([isinstance(item, tuple) and len(item) == size for item in value])


def is_serving_shown(ground, places, asked, paper):
    """Whether a paper shows that none of the kinds asked is refused with these places, or that one is."""
    if is_paper(paper, "serves", 2):
        tops = ats_told(ground, places, paper[1])
        # An empty list is not shut.
        if not tops:
            return False
        inside = ground.below_all(tops)
        return is_kept(ground, places, asked, inside, inside)
    if is_paper(paper, "refuses", 3):
        kind_at = ground.kind_of(paper[1])
        at = place_behind(ground, places, paper[2])
        return kind_at in asked and at is not None and ground.answer(places, at, kind_at) == Field.REFUSED
    return False


def ats_told(ground, places, parts):
    """The standings of a list told by parts; None for any value that is no list of some that fit."""
    if not isinstance(parts, tuple) or len(parts) > 2000:
        return None
    tops = [ground.index_of(part) for part in parts]
    if not all([top is not None and ground.fits_in(places, top) for top in tops]):
        return None
    return tops


def is_kept(ground, places, asked, inside, following):
    """Whether at some standings none of the kinds asked is refused, and comings lead to those that follow.

    Where nothing follows (None), it is not asked where comings lead.
    """
    for at in inside:
        answers = ground.answers(places, at)
        if any([answers[kind_at] == Field.REFUSED for kind_at in asked]):
            return False
        if following is not None and not all([behind in following for behind in ground.behind_comings(at, answers)]):
            return False
    return True


def place_behind(ground, places, row):
    """The standing behind a row told by parts, from the empty one; None for any value that is no row of deeds there."""
    if not isinstance(row, tuple) or len(row) > 2000:
        return None
    at = 0
    for part in row:
        at = ground.behind(places, at, part)
        if at is None:
            return None
    return at


def least_told(numbers, tops):
    """Any value, if it is a tuple of numbers from 0 to the tops; None for others."""
    if not isinstance(numbers, tuple) or len(numbers) != len(tops):
        return None
    if not all([is_within(number, 0, top) for number, top in zip(numbers, tops)]):
        return None
    return numbers


def greatest_told(numbers, tops):
    """Any value, if it is a tuple of numbers below the tops or of None, with the tops for None; None for others."""
    if not isinstance(numbers, tuple) or len(numbers) != len(tops):
        return None
    if not all([number is None or is_within(number, 0, top - 1) for number, top in zip(numbers, tops)]):
        return None
    return tuple([top if number is None else number for number, top in zip(numbers, tops)])


def is_whole(least, greatest, tops):
    """Whether lowest and highest tuples, in order, leave out none of those that are at most the tops."""
    if lowest(least) != least or highest(greatest) != greatest:
        return False
    places = tuple([0 for _ in tops])
    while places is not None:
        if not is_above_one(places, least) and not any([is_most(places, high) for high in greatest]):
            return False
        places = risen(places, tops)
    return True


def are_sure(ground, places, asked, start, lists, is_round):
    """Whether lists of standings show that a start is sure for as many comings as they are, or for any (round)."""
    tops = [ats_told(ground, places, parts) for parts in lists]
    if None in tops:
        return False
    inside = ground.below_all(tops[0])
    if ground.index_of(start.parts) not in inside:
        return False
    for turn in range(1, len(tops)):
        # Of three lists alike nothing is to be found out of the third one: a paper may have very many of them.
        if turn > 1 and tops[turn] == tops[turn - 1] and tops[turn] == tops[turn - 2]:
            continue
        following = ground.below_all(tops[turn])
        if not is_kept(ground, places, asked, inside, following):
            return False
        inside = following
    return is_kept(ground, places, asked, inside, inside if is_round else None)
