"""Lots gone on from plainly, by what plain.py tells of stands: lateness, plans, holds, and what parts two lots."""

from itertools import product

from plain import plain_evenings, plain_mornings


class Much(Exception):
    """A lot would be none by 11, or too many stands are met."""


class Plain:
    """The lots of some habits, gone on from plainly; what was found is kept, as it hangs on nothing else."""

    def __init__(self, habits):
        self.habits = habits
        self.bare = (((-1,) * len(habits), ()),)
        self.texts = sorted(way[1] for way in habits.ways if way[0] == "house")
        self.choices = [None] + self.texts
        self.mornings = {}
        self.gone = {}

    def lot(self, stands):
        """The lot of these stands."""
        lot = tuple(sorted(set(stands)))
        if len(lot) > 300 or max(len(stand[1]) for stand in lot) > 6:
            raise Much
        return lot

    def sent(self, lot, letters=(), asks=()):
        """The lot behind deeds."""
        return self.lot(one for stand in lot for one in plain_evenings(self.habits, stand, letters, asks))

    def asked(self, lot, choice):
        """The lot behind nothing or an ask."""
        return self.sent(lot, (), () if choice is None else (choice,))

    def stands_heard(self, lot):
        """By each hearing the stands that may come of a lot."""
        behind = {}
        for stand in lot:
            if stand not in self.mornings:
                self.mornings[stand] = plain_mornings(self.habits, stand)
            for heard, morning in self.mornings[stand]:
                behind.setdefault(heard, set()).add(morning)
        return behind

    def heard(self, lot):
        """By each hearing the lot that comes of a lot."""
        return {heard: self.lot(stands) for heard, stands in self.stands_heard(lot).items()}

    def nets_heard(self, lot):
        """By each hearing the lot that comes of a lot, where it's one."""
        return {heard: tuple(sorted(stands)) for heard, stands in self.stands_heard(lot).items()
                if len(stands) <= 300 and max(len(stand[1]) for stand in stands) <= 6}

    def met(self, lot, choices=(None,), most=400):
        """All lots met: {lot: {choice: {heard: lot}}}."""
        graph = {}
        waiting = [lot]
        while waiting:
            one = waiting.pop()
            if one not in graph:
                graph[one] = {choice: self.heard(self.asked(one, choice)) for choice in choices}
                waiting += [behind for lots in graph[one].values() for behind in lots.values()]
                if sum(map(len, graph)) > most:
                    raise Much
        return graph

    def rows(self, graph, lot, plan, seen=()):
        """The most days and the most asks in any row by a plan, gone through row by row; None where one doesn't end."""
        if lot == self.bare:
            return 0, 0
        if lot in seen or lot not in plan:
            return None
        told = [self.rows(graph, behind, plan, seen + (lot,)) for behind in graph[lot][plan[lot]].values()]
        if None in told:
            return None
        return 1 + max(days for days, _ in told), max(asks for _, asks in told) + (plan[lot] is not None)

    def late(self, graph, lot):
        """In how many days a lot is over, by all rows of hearings."""
        told = self.rows(graph, lot, {one: None for one in graph})
        return told and told[0]

    def all_plans(self, graph):
        """All plans of all lots met but the bare stand's."""
        lots = sorted(set(graph) - {self.bare})
        for choices in product(self.choices, repeat=len(lots)):
            yield dict(zip(lots, choices))

    def best_of_all(self, graph, lot):
        """The least days and the fewest asks, each over all plans."""
        told = [self.rows(graph, lot, plan) for plan in self.all_plans(graph)]
        told = [one for one in told if one is not None]
        if not told:
            return None, None
        return min(days for days, _ in told), min(asks for _, asks in told)

    def best(self, graph, lot):
        """The same for more lots: whether it can surely be within so many days and asks, for each number of both."""
        ends = {(one, 0, asks): one == self.bare for one in graph for asks in range(len(graph) + 1)}
        days = 0
        while days < 2 * len(graph) + 2:
            days += 1
            for one in graph:
                for asks in range(len(graph) + 1):
                    ends[one, days, asks] = one == self.bare or any(
                        asks - (choice is not None) >= 0
                        and all(ends[behind, days - 1, asks - (choice is not None)] for behind in lots.values())
                        for choice, lots in graph[one].items())
        many = len(graph)
        by_days = [n for n in range(days + 1) if ends[lot, n, many]]
        by_asks = [n for n in range(many + 1) if ends[lot, days, n]]
        return (by_days[0] if by_days else None), (by_asks[0] if by_asks else None)

    def hold(self, stay, sendings):
        """The least number of days behind whose nights a name is surely clear, or None."""
        evenings, counted = {self.sent(self.bare, letters_on(sendings, 0))}, set()
        for after in range(1, stay + 1):
            counted |= evenings
            mornings = {behind for lot in evenings for behind in self.heard(lot).values()}
            evenings = {self.sent(lot, letters_on(sendings, after)) for lot in mornings}
        graph = {}
        for lot in evenings:
            if lot not in graph:
                graph.update(self.met(lot))
        if sum(map(len, counted | set(graph))) > 400:
            raise Much
        days = [self.late(graph, lot) for lot in evenings]
        return None if None in days else stay + max(days)

    def steps(self, lot):
        """The lots that come of a lot by each (letters, asks, heard), letters and asks of one text at most."""
        if lot not in self.gone:
            deeds = [((), ())] + [((text,), ()) for text in self.texts] + [((), (text,)) for text in self.texts]
            self.gone[lot] = {(*deed, heard): behind for deed in deeds
                              for heard, behind in self.heard(self.sent(lot, *deed)).items()}
        return self.gone[lot]

    def pairs(self, one, other, most=400):
        """All pairs of lots that may come of two, with the steps that both can go."""
        pairs = {}
        waiting = [(one, other)]
        while waiting:
            pair = waiting.pop()
            if pair not in pairs:
                ahead, behind = map(self.steps, pair)
                pairs[pair] = {step: (ahead[step], behind[step]) for step in ahead if step in behind}
                waiting += pairs[pair].values()
                if sum(len(first) + len(second) for first, second in pairs) > most:
                    raise Much
        return pairs

    def least(self, pairs, pair, many, known):
        """The first row in order of just so many steps that parts a pair, or None."""
        if (pair, many) not in known:
            known[pair, many] = self.first_row(pairs, pair, many, known)
        return known[pair, many]

    def first_row(self, pairs, pair, many, known):
        if many == 0:
            return () if (pair[0] == self.bare) != (pair[1] == self.bare) else None
        for step in sorted(set(self.steps(pair[0])) | set(self.steps(pair[1]))):
            row = () if many == 1 else None
            if step in pairs[pair]:
                row = self.least(pairs, pairs[pair][step], many - 1, known)
            if row is not None:
                return (step,) + row
        return None

    def parting(self, one, other):
        """The least row that parts two lots: all rows of no step are gone through, then all of one, and so on."""
        pairs, known = self.pairs(one, other), {}
        for many in range(len(pairs) + 1):
            row = self.least(pairs, (one, other), many, known)
            if row is not None:
                return row
        return None


def letters_on(sendings, after):
    """The texts to which letters are sent so many days behind the coming."""
    return tuple(text for day, text in sendings if day == after)
