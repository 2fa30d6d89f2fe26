"""Whom to ask, so that a name is clear soonest, or by fewest asks; plans, and nets that show that none ends."""

from nameagain.errors import TooMany
from nameagain.habits import sent_to
from nameagain.kinds import is_tuple_of, rises
from nameagain.lots import is_lot, look_lot
from nameagain.met import all_met, bare_lot, comings_heard, ending, lot_behind, lot_sent, lots_heard, stands_of

BY_ASKS = "asks"


def choices(habits):
    """What the house may do on an evening: nothing, or an ask to one folk."""
    return [None, *sorted(sent_to(habits))]


def lot_asked(habits, lot, choice):
    """The lot behind what the house does on an evening."""
    return lot_sent(habits, lot, (), () if choice is None else (choice,))


def lots_asked(habits, lot):
    """The lots that may come of a lot, by what the house does and then hears."""
    return {(choice, heard): behind for choice in choices(habits)
            for heard, behind in lots_heard(habits, lot_asked(habits, lot, choice)).items()}


def by_choice(habits, lots):
    """By each thing that the house may do a list of the lots that come of it."""
    return {choice: [behind for (done, heard), behind in lots.items() if done == choice]
            for choice in choices(habits)}


def lots_met(habits, lot):
    """All lots that may come of a lot: to each, by each thing that the house may do, a list of those that come."""
    met = all_met([lot], lambda ahead: lots_asked(habits, ahead), stands_of)
    return {one: by_choice(habits, met[one]) for one in met}


def sure_choices(met, costs, allowed):
    """To the lots that have no costs yet and from which one of these choices surely leads to such as have: that one."""
    found = {}
    for lot, behind in met.items():
        if lot not in costs:
            sure = [choice for choice in allowed if all([one in costs for one in behind[choice]])]
            if sure:
                found[lot] = sure[0]
    return found


def cheapest(habits, met, free):
    """The least costs of coming surely to the bare stand's lot, from where this can be, and what is done there.

    A choice costs one, a free one nothing. Dearer ones wait until free ones lead to nothing more of the same costs.
    """
    dear = [choice for choice in choices(habits) if choice not in free]
    costs = {bare_lot(habits): 0}
    done = {}
    cost = 0
    while True:
        found = sure_choices(met, costs, free)
        if not found:
            cost += 1
            found = sure_choices(met, costs, dear)
        if not found:
            return costs, done
        for lot, choice in found.items():
            costs[lot] = cost
            done[lot] = choice


def least_days(habits, met):
    """The least days in which a plan surely ends, from each lot where one does, and what it does there."""
    return cheapest(habits, met, [])


def least_asks(habits, met):
    """The fewest asks that a plan surely makes do with, from each lot where one ends, and what it does there."""
    return cheapest(habits, met, [None])


def soonest(habits, lot):
    """The least number of days in which a plan surely ends, or None."""
    look_lot(habits, lot)
    costs, done = least_days(habits, lots_met(habits, lot))
    return costs.get(lot)


def fewest_asks(habits, lot):
    """The least number of asks that a plan surely makes do with, or None."""
    look_lot(habits, lot)
    costs, done = least_asks(habits, lots_met(habits, lot))
    return costs.get(lot)


def needed(met, done, lot):
    """Of what is done at lots, what comes to be done from a lot on: rising tuples (lot, choice)."""
    waiting = [lot]
    told = {}
    while waiting:
        one = waiting.pop()
        if one in done and one not in told:
            told[one] = done[one]
            waiting.extend(met[one][done[one]])
    # No lot is there twice, so what is done there, perhaps nothing, never is compared.
    return tuple(sorted(list(told.items())))


def plan(habits, lot, *, by="days"):
    """A plan that surely ends in the least days, or by "asks" with the fewest asks; None where none ends."""
    look_lot(habits, lot)
    met = lots_met(habits, lot)
    costs, done = least_asks(habits, met) if by == BY_ASKS else least_days(habits, met)
    return needed(met, done, lot) if lot in costs else None


def net(habits, lot):
    """Lots that no plan surely leaves, the asked one among them; None where some plan ends."""
    look_lot(habits, lot)
    met = lots_met(habits, lot)
    costs, done = least_days(habits, met)
    if lot in costs:
        return None
    return tuple(sorted([one for one in met if one not in costs]))


def is_choice(habits, thing):
    """Whether a thing is a lot, not the bare stand's alone, with what the house may do there."""
    if not is_tuple_of(thing, 2):
        return False
    lot, choice = thing
    return (choice is None or choice in sent_to(habits)) and is_lot(habits, lot) and lot != bare_lot(habits)


def is_plan(habits, thing):
    """Whether any thing is a plan."""
    if not isinstance(thing, tuple) or not all([is_choice(habits, one) for one in thing]):
        return False
    return rises([lot for lot, choice in thing])


def lots_planned(habits, done, lot):
    """The lots that may come of a lot by what a plan does there: none where it does nothing told."""
    return lots_heard(habits, lot_asked(habits, lot, done[lot])) if lot in done else {}


def keeps(habits, lot, plan):
    """The most days and the most asks that any thing surely keeps as a plan; None where it's no plan that ends."""
    look_lot(habits, lot)
    if not is_plan(habits, plan):
        return None
    done = {one: choice for one, choice in plan}
    try:
        # Who looks at a plan goes through all of it, however much that is.
        met = all_met([lot], lambda ahead: lots_planned(habits, done, ahead), stands_of, None)
    except TooMany:
        return None
    most = {bare_lot(habits): (0, 0)}
    for one in ending(met, bare_lot(habits)):
        days = [most[behind][0] for behind in met[one].values()]
        asks = [most[behind][1] for behind in met[one].values()]
        most[one] = (1 + max(days), max(asks) + (0 if done[one] is None else 1))
    return most.get(lot)


def comes_among(habits, lot, choice, lots):
    """Whether by what the house does at a lot one of these lots may come."""
    try:
        rows = comings_heard(habits, lot_asked(habits, lot, choice))
    except TooMany:
        return False
    for heard in rows:
        try:
            if lot_behind(habits, rows[heard]) in lots:
                return True
        except TooMany:
            # What would come of this hearing is no lot, so it's none that is there.
            continue
    return False


def is_net(habits, lot, net):
    """Whether any thing is a net of a lot."""
    look_lot(habits, lot)
    if not isinstance(net, tuple) or not all([is_lot(habits, one) for one in net]) or not rises(net):
        return False
    lots = {one: True for one in net}
    if lot not in lots or bare_lot(habits) in lots:
        return False
    return all([comes_among(habits, one, choice, lots) for one in net for choice in choices(habits)])
