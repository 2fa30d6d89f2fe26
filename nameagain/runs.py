"""Books of what the house did and heard of a name, and the runs that it can't tell from its own."""

from nameagain.days import are_deeds, are_heard, is_short_stand, look_stand
from nameagain.errors import NoBook
from nameagain.kinds import is_tuple_of
from nameagain.walks import first_stands, is_next, run_back, walk

MOST_DAYS_OF_BOOK = 30


def is_day(habits, thing, at):
    """Whether a thing may be the day of a book with this number."""
    if not is_tuple_of(thing, 3):
        return False
    heard, letters, asks = thing
    if at == 0 and heard != ():
        return False
    return are_heard(habits, heard) and are_deeds(habits, letters) and are_deeds(habits, asks)


def look_book(habits, book):
    """Refuse what is no book."""
    if not isinstance(book, tuple) or not 1 <= len(book) <= MOST_DAYS_OF_BOOK:
        raise NoBook(-1)
    for at, day in enumerate(book):
        if not is_day(habits, day, at):
            raise NoBook(at)


def comes_at(habits, book, run, at):
    """Whether what a run has on a day comes of what it has ahead."""
    if not is_short_stand(habits, run[at]):
        return False
    if at == 0:
        return run[0] in first_stands(habits, book[0])
    return is_next(habits, run[at - 1], book[at], run[at])


def where_fails(habits, book, run):
    """Where any thing fails to be a run of a book, whether or not that has a lot; None where it is one."""
    if not is_tuple_of(run, len(book)):
        return -1
    for at in range(len(book)):
        if not comes_at(habits, book, run, at):
            return at
    return None


def fails(habits, book, run):
    """Where any thing fails to be a run of a book: -1, the number of a day, or None where it is one."""
    look_book(habits, book)
    walk(habits, book)
    return where_fails(habits, book, run)


def how_many(habits, book):
    """How many runs a book has."""
    look_book(habits, book)
    days = walk(habits, book)
    many = {stand: 1 for stand in days[0]}
    for day in days[1:]:
        many = {stand: sum([many[one] for one in ahead]) for stand, ahead in day.items()}
    return sum(list(many.values()))


def run_to(habits, book, stand):
    """A run of a book that ends in a stand, or None."""
    look_book(habits, book)
    look_stand(habits, stand)
    days = walk(habits, book)
    if stand not in days[-1]:
        return None
    return run_back(days, stand)
