"""Whether two lots will ever tell otherwise, and the least row of deeds and hearings that parts them."""

from nameagain.days import are_deeds, are_heard
from nameagain.errors import NoRun, TooMany
from nameagain.habits import sent_to
from nameagain.kinds import is_tuple_of
from nameagain.lots import look_lot
from nameagain.met import all_met, bare_lot, lot_heard, lot_sent, lots_heard


def choices(habits):
    """What may be done on an evening: letters and asks of one text together at most."""
    rows = [((), ())]
    for text in sent_to(habits):
        rows.extend([((text,), ()), ((), (text,))])
    return rows


def lots_behind(habits, lot):
    """The lots that come of a lot by each step: letters and asks, and what is heard then."""
    behind = {}
    for letters, asks in choices(habits):
        lots = lots_heard(habits, lot_sent(habits, lot, letters, asks))
        for heard in lots:
            behind[(letters, asks, heard)] = lots[heard]
    return behind


class Steps:
    """What comes of lots by each step, each lot gone on from but once."""

    def __init__(self, habits):
        self.habits = habits
        self.known = {}

    def of_lot(self, lot):
        """The lots that come of a lot by each step."""
        if lot not in self.known:
            self.known[lot] = lots_behind(self.habits, lot)
        return self.known[lot]

    def of_both(self, pair):
        """The pairs of lots that come of a pair by each step that both can go."""
        one, other = [self.of_lot(lot) for lot in pair]
        return {step: (one[step], other[step]) for step in sorted(list(one)) if step in other}

    def of_any(self, pair):
        """All steps that one of a pair can go at least, in order."""
        one, other = [self.of_lot(lot) for lot in pair]
        return sorted(list({step: True for step in [*one, *other]}))


def stands_of_both(pair):
    """For how many stands a pair of lots counts, alike ones twice."""
    return len(pair[0]) + len(pair[1])


def is_parted(habits, pair):
    """Whether just one of two lots is clear."""
    bare = bare_lot(habits)
    return (pair[0] == bare) != (pair[1] == bare)


def least_rows(met, first):
    """The least row that leads to each of the pairs met: these come in the order of their least rows."""
    rows = {first: ()}
    for pair in met:
        for step, behind in met[pair].items():
            if behind not in rows:
                rows[behind] = rows[pair] + (step,)
    return rows


def parting(habits, one, other):
    """The least row that parts two lots, or None where none does."""
    look_lot(habits, one)
    look_lot(habits, other)
    steps = Steps(habits)
    first = (one, other)
    # Pairs that are parted already are gone on from, too: whether that's too much comes ahead of all that is told.
    met = all_met([first], lambda both: steps.of_both(both), stands_of_both)
    if is_parted(habits, first):
        return ()
    rows = least_rows(met, first)
    for pair in met:
        for step in steps.of_any(pair):
            if step not in met[pair] or is_parted(habits, met[pair][step]):
                return rows[pair] + (step,)
    return None


def is_step(habits, thing):
    """Whether a thing is letters and asks, of one text together at most, with what is heard then."""
    if not is_tuple_of(thing, 3):
        return False
    letters, asks, heard = thing
    if not are_deeds(habits, letters) or not are_deeds(habits, asks) or not are_heard(habits, heard):
        return False
    return len(letters) + len(asks) <= 1


def gone(habits, lot, step):
    """The lot that comes of a lot by a step, or None where that can't be heard."""
    letters, asks, heard = step
    try:
        return lot_heard(habits, lot_sent(habits, lot, letters, asks), heard)
    except NoRun:
        return None


def parts_by(habits, pair, row):
    """Whether a row of steps parts two lots."""
    lots = list(pair)
    known = {}
    for at, step in enumerate(row):
        for lot in lots:
            if (lot, step) not in known:
                known[(lot, step)] = gone(habits, lot, step)
        lots = [known[(lot, step)] for lot in lots]
        if None in lots:
            return at == len(row) - 1 and lots[0] != lots[1]
    return is_parted(habits, lots)


def parts(habits, one, other, row):
    """Whether any thing is a row that parts two lots."""
    look_lot(habits, one)
    look_lot(habits, other)
    if not isinstance(row, tuple) or not all([is_step(habits, step) for step in row]):
        return False
    try:
        return parts_by(habits, (one, other), row)
    except TooMany:
        return False
