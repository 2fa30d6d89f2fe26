"""How late it is known at the worst that nothing is left, while the house does nothing, and papers that show it."""

from nameagain.days import are_heard
from nameagain.errors import NoRun, TooMany
from nameagain.kinds import is_tuple_of, is_whole, rises
from nameagain.lots import is_lot, look_lot
from nameagain.met import all_met, bare_lot, ending, lot_heard, lots_heard, stands_of

BY = "by"
NEVER = "never"


def lots_met(habits, starts):
    """All lots that may come of these while the house does nothing: to each the ones that come by each hearing."""
    return all_met(starts, lambda one: lots_heard(habits, one), stands_of)


def days_of(habits, met):
    """In how many days each of the lots met is over, where it surely is."""
    bare = bare_lot(habits)
    days = {bare: 0}
    for lot in ending(met, bare):
        days[lot] = 1 + max([days[behind] for behind in met[lot].values()])
    return days


def late(habits, lot):
    """In how many days a lot is over at the worst, or None."""
    look_lot(habits, lot)
    return days_of(habits, lots_met(habits, [lot])).get(lot)


def worst_row(met, days, lot):
    """Hearings by which a lot is over just in as many days as it is at the worst."""
    row = []
    while days[lot] > 0:
        left = days[lot] - 1
        heard, lot = [(words, behind) for words, behind in met[lot].items() if days[behind] == left][0]
        row.append(heard)
    return tuple(row)


def endless_rows(met, days, lot):
    """Two rows of hearings, from a lot that may never be over to one such, and from that back to it."""
    row = []
    places = {}
    while lot not in places:
        places[lot] = len(row)
        heard, lot = [(words, behind) for words, behind in met[lot].items() if behind not in days][0]
        row.append(heard)
    return tuple(row[:places[lot]]), tuple(row[places[lot]:])


def late_paper(habits, lot):
    """A paper that shows in how many days a lot is over at the worst, or that it may never be."""
    look_lot(habits, lot)
    met = lots_met(habits, [lot])
    days = days_of(habits, met)
    if lot in days:
        return (BY, tuple(sorted([(one, days[one]) for one in met])), worst_row(met, days, lot))
    row, ring = endless_rows(met, days, lot)
    return (NEVER, row, ring)


def worst(habits, lot):
    """Hearings by which a lot is over as late as it may be, or None where it may never be."""
    look_lot(habits, lot)
    met = lots_met(habits, [lot])
    days = days_of(habits, met)
    return worst_row(met, days, lot) if lot in days else None


def lots_along(habits, lot, row):
    """The lots to which any thing, as a row of hearings, leads one behind another, the first too; None if it's none."""
    if not isinstance(row, tuple) or not all([are_heard(habits, heard) for heard in row]):
        return None
    lots = [lot]
    known = {}
    for heard in row:
        step = (lots[-1], heard)
        if step not in known:
            try:
                known[step] = lot_heard(habits, lots[-1], heard)
            except (NoRun, TooMany):
                return None
        lots.append(known[step])
    return lots


def is_lot_over(habits, thing):
    """Whether a thing is a lot with days, none of the bare stand's alone and of no other."""
    if not is_tuple_of(thing, 2):
        return False
    lot, days = thing
    return is_lot(habits, lot) and is_whole(days) and days >= 0 and (days == 0) == (lot == bare_lot(habits))


def goes_down(habits, lot, days):
    """Whether all lots that may come of a lot are among these with fewer days."""
    try:
        behind = list(lots_heard(habits, lot).values())
    except TooMany:
        return False
    return all([one in days and days[one] < days[lot] for one in behind])


def shows_by(habits, lot, rows, row):
    """Whether these are the lots with their days, and the row, of a paper that a lot is over by then."""
    if not isinstance(rows, tuple) or not all([is_lot_over(habits, one) for one in rows]):
        return False
    days = {one: many for one, many in rows}
    if not rises([one for one, many in rows]) or lot not in days or not is_tuple_of(row, days[lot]):
        return False
    if not all([goes_down(habits, one, days) for one in days if days[one] > 0]):
        return False
    lots = lots_along(habits, lot, row)
    return lots is not None and bare_lot(habits) not in lots[:-1] and lots[-1] == bare_lot(habits)


def shows_never(habits, lot, row, ring):
    """Whether these are the row and the ring of a paper that a lot may never be over."""
    there = lots_along(habits, lot, row)
    if there is None or there[-1] == bare_lot(habits) or ring == ():
        return False
    around = lots_along(habits, there[-1], ring)
    return around is not None and around[-1] == there[-1]


def shows_late(habits, lot, paper):
    """Whether any thing is a paper of how late a lot is over."""
    look_lot(habits, lot)
    if not is_tuple_of(paper, 3):
        return False
    word, told, row = paper
    if word == BY:
        return shows_by(habits, lot, told, row)
    return word == NEVER and shows_never(habits, lot, told, row)
