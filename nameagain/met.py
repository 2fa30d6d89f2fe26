"""Lots met: what may come of lots by what is done and then heard, gone through to the end.

Lots and deeds are taken as right here: who hands them in has looked at them.
"""

from nameagain.days import bare
from nameagain.errors import TooMany
from nameagain.nights import comings, deed_rows, evenings_behind, heard_of
from nameagain.walks import as_lot, few_stands_behind, next_stands, refuse_more

MOST_MET = 400


def bare_lot(habits):
    """The lot of the bare stand alone."""
    return (bare(habits),)


def lot_sent(habits, lot, letters, asks):
    """The lot that stands behind these deeds of the house."""
    rows = deed_rows(habits, letters, asks)
    behind = {}
    for stand in lot:
        for evening in evenings_behind(stand, rows):
            behind[evening] = True
        refuse_more(behind)
    return as_lot(behind)


def lot_heard(habits, lot, heard):
    """The lot that comes of a lot when this is heard and nothing is done."""
    return as_lot(next_stands(habits, lot, (heard, (), ())))


def comings_heard(habits, lot):
    """By each hearing all (notes, came, left) of the lot's stands that are heard so."""
    rows = {}
    for notes, under in lot:
        for came, left in comings(habits, under):
            rows.setdefault(heard_of(habits, came), []).append((notes, came, left))
    return rows


def lot_behind(habits, rows):
    """The lot of all stands that such rows of one hearing lead to."""
    behind = {}
    for notes, came, left in rows:
        for stand in few_stands_behind(habits, notes, came, left):
            behind[stand] = True
        refuse_more(behind)
    return as_lot(behind)


def lots_heard(habits, lot):
    """By each hearing the lot that comes of a lot; refused where one of them would be none."""
    rows = comings_heard(habits, lot)
    return {heard: lot_behind(habits, rows[heard]) for heard in sorted(list(rows))}


def stands_of(lot):
    """For how many stands a lot counts where lots are met."""
    return len(lot)


def refuse_met(lots):
    """Refuse lots that have more stands together than may be met."""
    if sum([len(lot) for lot in lots]) > MOST_MET:
        raise TooMany(0)


def all_met(starts, steps, size, most=MOST_MET):
    """All that may come of the starts, in the order of its coming: a dict from each to what steps tell of it.

    steps tell of one a dict whose values come of it; size tells for how many stands one counts. More than most stands
    together are refused; where most is None, none are.
    """
    seen = {one: True for one in starts}
    waiting = list(seen)
    many = sum([size(one) for one in waiting])
    met = {}
    while len(met) < len(waiting):
        if most is not None and many > most:
            raise TooMany(0)
        one = waiting[len(met)]
        met[one] = steps(one)
        for behind in met[one].values():
            if behind not in seen:
                seen[behind] = True
                waiting.append(behind)
                many += size(behind)
    return met


def ending(met, last):
    """What of all that is met surely comes to the last one, whatever comes: each behind all that may come of it."""
    known = {last: True}
    order = []
    found = [last]
    while found:
        found = [one for one in met if one not in known and len(met[one]) > 0
                 and all([behind in known for behind in met[one].values()])]
        for one in found:
            known[one] = True
        order.extend(found)
    return order
