"""Whether anything may be left of a name, and papers that show it."""

from nameagain.days import bare
from nameagain.errors import NoRun, TooMany
from nameagain.kinds import is_tuple_of
from nameagain.lots import is_lot, lot_of
from nameagain.runs import look_book, where_fails
from nameagain.walks import as_lot, first_stands, next_stands, run_back, walk

CLEAR = "clear"
LEFT = "left"


def is_clear(habits, book):
    """Whether no run of a book has anything about any more."""
    return lot_of(habits, book) == (bare(habits),)


def paper(habits, book):
    """A paper that shows whether a name is left or clear behind a book."""
    look_book(habits, book)
    days = walk(habits, book)
    lot = as_lot(days[-1])
    # The bare stand is the first of any lot that it's in.
    if lot[-1] == bare(habits):
        return (CLEAR, tuple([as_lot(day) for day in days]))
    return (LEFT, run_back(days, lot[-1]))


def are_in(stands, lot):
    """Whether all these stands are in a lot."""
    held = {stand: True for stand in lot}
    return all([stand in held for stand in stands])


def go_on(habits, ahead, day, lot):
    """Whether all stands that come of those of the lot ahead by a day are in a lot."""
    try:
        behind = list(next_stands(habits, ahead, day))
    except NoRun:
        return True
    except TooMany:
        return False
    return are_in(behind, lot)


def shows_clear(habits, book, lots):
    """Whether a thing is the lots of a paper that a name is clear."""
    if not is_tuple_of(lots, len(book)) or not all([is_lot(habits, lot) for lot in lots]):
        return False
    if lots[-1] != (bare(habits),) or not are_in(first_stands(habits, book[0]), lots[0]):
        return False
    return all([go_on(habits, lots[at - 1], book[at], lots[at]) for at in range(1, len(book))])


def shows_left(habits, book, run):
    """Whether a thing is the run of a paper that a name is left."""
    return where_fails(habits, book, run) is None and run[-1] != bare(habits)


def shows(habits, book, paper):
    """Whether any thing is a paper of a book."""
    look_book(habits, book)
    if not is_tuple_of(paper, 2):
        return False
    word, told = paper
    if word == LEFT:
        return shows_left(habits, book, told)
    return word == CLEAR and shows_clear(habits, book, told)
