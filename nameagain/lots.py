"""Lots: all that may be about of a name, by what the house did and heard."""

from nameagain.days import are_heard, is_short_stand, look_deeds
from nameagain.errors import NoHeard, NoLot
from nameagain.habits import is_told_way
from nameagain.kinds import rises
from nameagain.nights import NO_NOTE, all_folk_days, comings, heard_of
from nameagain.runs import look_book
from nameagain.walks import MOST_STANDS, as_lot, next_stands, walk


def is_lot(habits, thing):
    """Whether any thing is a lot."""
    if not isinstance(thing, tuple) or not 1 <= len(thing) <= MOST_STANDS:
        return False
    return all([is_short_stand(habits, stand) for stand in thing]) and rises(thing)


def look_lot(habits, lot):
    """Refuse what is no lot."""
    if not is_lot(habits, lot):
        raise NoLot("no lot of these habits")


def lot_of(habits, book):
    """All stands in which the runs of a book end."""
    look_book(habits, book)
    return as_lot(walk(habits, book)[-1])


def hearings(habits, lot):
    """All that may be heard on the next morning, rising."""
    look_lot(habits, lot)
    found = {}
    for notes, under in lot:
        for came, left in comings(habits, under):
            # Of what the folk do nothing is heard yet, but it's refused where it's too much.
            all_folk_days(habits, notes, came, left)
            found[heard_of(habits, came)] = True
    return sorted(list(found))


def next_lot(habits, lot, heard=(), *, letters=(), asks=()):
    """All stands that may come of those of a lot, by what is heard and then done."""
    look_lot(habits, lot)
    if not are_heard(habits, heard):
        raise NoHeard("heard is a sorted tuple of tuples (text of a saying folk, word)")
    look_deeds(habits, letters, asks)
    return as_lot(next_stands(habits, lot, (heard, letters, asks)))


def places(habits):
    """The places where something may be: notes in the folk's order, then ways in theirs."""
    return [(folk[0],) for folk in habits.folk] + [(way[0], way[1]) for way in habits.ways]


def filled(habits, stand):
    """The places where a stand has something."""
    notes, under = stand
    ways = [habits.ways[thing[0]] for thing in under]
    kept = [(folk[0],) for folk, note in zip(habits.folk, notes) if note != NO_NOTE]
    return kept + [(way[0], way[1]) for way in ways]


def may_be(habits, lot):
    """The places where a stand of a lot has something."""
    look_lot(habits, lot)
    rows = [filled(habits, stand) for stand in lot]
    return [place for place in places(habits) if any([place in row for row in rows])]


def must_be(habits, lot):
    """The places where each stand of a lot has something."""
    look_lot(habits, lot)
    rows = [filled(habits, stand) for stand in lot]
    return [place for place in places(habits) if all([place in row for row in rows])]


def heaps(habits):
    """The texts of the folk that hang together by ways between folk, each heap rising, by their first texts."""
    rows = [[folk[0]] for folk in habits.folk]
    for number, way in enumerate(habits.ways):
        if is_told_way(habits, number):
            joined = [row for row in rows if way[0] in row or way[1] in row]
            apart = [row for row in rows if row not in joined]
            rows = apart + [[text for row in joined for text in row]]
    return sorted([sorted(row) for row in rows])
