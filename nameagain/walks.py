"""What comes of stands from one evening to the next, by what is heard and done, and so through a book.

Stands, days (heard, letters, asks) and books are taken as right here: who hands them in has looked at them.
"""

from nameagain.days import bare
from nameagain.errors import NoRun, TooMany
from nameagain.habits import HOUSE
from nameagain.nights import all_folk_days, comings, deed_rows, evenings_behind, folk_days, heard_of, put_days

MOST_STANDS = 300


def refuse_more(stands):
    """Refuse where there are more stands than a lot has."""
    if len(stands) > MOST_STANDS:
        raise TooMany(0)


def few_stands_behind(habits, notes, came, left):
    """All stands of the evening, of what came and what is left; refused where they're more than a lot has."""
    days = all_folk_days(habits, notes, came, left)
    many = 1
    for rows in days:
        many = many * len(rows)
    # No two of them are alike, so there's no need to make them all to count them.
    if many > MOST_STANDS:
        raise TooMany(0)
    return put_days(days, left)


def heard_so(habits, stand, heard):
    """The stands that are with what was heard among the mornings of a stand, each once."""
    notes, under = stand
    behind = {}
    for came, left in comings(habits, under):
        if heard_of(habits, came) == heard:
            for morning in few_stands_behind(habits, notes, came, left):
                behind[morning] = True
            refuse_more(behind)
    return list(behind)


def first_stands(habits, day):
    """The stands that come of the bare stand by the deeds of a book's first day."""
    heard, letters, asks = day
    return evenings_behind(bare(habits), deed_rows(habits, letters, asks))


def next_stands(habits, stands, day):
    """All stands that come of these by a day: a dict from each to those of which it comes."""
    heard, letters, asks = day
    rows = deed_rows(habits, letters, asks)
    behind = {}
    for stand in stands:
        for morning in heard_so(habits, stand, heard):
            for evening in evenings_behind(morning, rows):
                if evening not in behind:
                    behind[evening] = []
                behind[evening].append(stand)
            # Unlike mornings have unlike evenings, so too many of them are seen here, too.
            refuse_more(behind)
    if not behind:
        raise NoRun(0)
    return behind


def walk(habits, book):
    """The lots of all days of a book, each as a dict from its stands to those ahead of which they come."""
    days = [{stand: [] for stand in first_stands(habits, book[0])}]
    for at in range(1, len(book)):
        try:
            days.append(next_stands(habits, list(days[-1]), book[at]))
        except NoRun:
            raise NoRun(at) from None
        except TooMany:
            raise TooMany(at) from None
    return days


def as_lot(stands):
    """The lot of these stands, each there once."""
    return tuple(sorted(list(stands)))


def run_back(days, stand):
    """A run that ends in a stand of the last of the lots of a walk."""
    run = [stand]
    for day in days[:0:-1]:
        run.append(day[run[-1]][0])
    return tuple(run[::-1])


def sent_by(habits, under, source):
    """The things under way that were sent this day by the house or a folk."""
    return tuple([thing for thing in under if thing[2] == 0 and habits.ways[thing[0]][0] == source])


def may_do(habits, notes, came, left, evening):
    """Whether the days of all folk may leave the notes and send the things of an evening's stand."""
    ends, under = evening
    for number, folk in enumerate(habits.folk):
        end = (ends[number], sent_by(habits, under, folk[0]))
        if end not in folk_days(habits, number, notes[number], came, left):
            return False
    return True


def is_next(habits, stand, day, evening):
    """Whether a stand of the evening comes of a short one by what was heard and done.

    What is under way tells by its days and its way who sent it, so there is no need to go through all that may come.
    """
    heard, letters, asks = day
    notes, under = stand
    if sent_by(habits, evening[1], HOUSE) not in deed_rows(habits, letters, asks):
        return False
    older = tuple([thing for thing in evening[1] if thing[2] > 0])
    for came, left in comings(habits, under):
        if left == older and heard_of(habits, came) == heard and may_do(habits, notes, came, left, evening):
            return True
    return False
