"""Lateness, plans and nets of chance habits, against all hearings and lots gone through plainly."""

import random
import unittest

from nameagain.asks import fewest_asks, is_net, keeps, net, plan, soonest
from nameagain.errors import TooMany
from nameagain.late import late, late_paper, shows_late, worst
from nameagain.lots import is_lot
from plain_met import Much, Plain
from test_days_plain import chance_habits, chance_stand


def chance_lot(chance, plain):
    """A lot of a few stands, gone on from for some days by chance; not always one that a book has."""
    lot = tuple(sorted({chance_stand(chance, plain.habits, chance.choice((0, 0, 1, 1, 2)))
                        for _ in range(chance.choice((1, 1, 2, 3)))}))
    for _ in range(chance.choice((0, 0, 1, 2))):
        deeds = {word: tuple(text for text in plain.texts if chance.random() < 0.2) for word in ("letters", "asks")}
        lots = plain.heard(plain.sent(lot, **deeds))
        lot = lots[chance.choice(sorted(lots))]
    return lot


def refusal(function, *things):
    """The field of the TooMany by which a function refuses."""
    try:
        function(*things)
    except TooMany as error:
        return error.at
    return None


class MetPlain(unittest.TestCase):
    def check_late(self, plain, lot):
        habits = plain.habits
        try:
            graph = plain.met(lot)
        except Much:
            for function in (late, late_paper, worst):
                self.assertEqual(refusal(function, habits, lot), 0)
            return "much"
        days = plain.late(graph, lot)
        self.assertEqual(late(habits, lot), days)
        paper, row = late_paper(habits, lot), worst(habits, lot)
        self.assertIs(shows_late(habits, lot, paper), True)
        self.assertEqual(paper[0], "never" if days is None else "by")
        self.assertEqual(row is None, days is None)
        if days is None:
            return "never"
        self.assertEqual((len(row), len(paper[2])), (days, days))
        for heards in (row, paper[2]):
            at = lot
            for heard in heards:
                self.assertNotEqual(at, plain.bare)
                at = graph[at][None][heard]
            self.assertEqual(at, plain.bare)
        rows = tuple(sorted((one, plain.late(graph, one)) for one in graph))
        self.assertIs(shows_late(habits, lot, ("by", rows, row)), True)
        return "over"

    def check_plan(self, plain, graph, lot, by, told, most):
        """The told plan is a plan, and keeps what is told, by all of its rows."""
        self.assertIsInstance(told, tuple)
        self.assertEqual(told, tuple(sorted(set(told), key=lambda one: one[0])))
        deeds = dict(told)
        self.assertEqual(len(deeds), len(told))
        self.assertNotIn(plain.bare, deeds)
        self.assertTrue(all(choice in plain.choices for choice in deeds.values()))
        kept = plain.rows(graph, lot, deeds)
        self.assertEqual(kept["days asks".split().index(by)], most)
        self.assertEqual(keeps(plain.habits, lot, told), kept)

    def check_net(self, plain, graph, lot, told):
        self.assertIs(is_net(plain.habits, lot, told), True)
        self.assertEqual(told, tuple(sorted(set(told))))
        self.assertIn(lot, told)
        self.assertNotIn(plain.bare, told)
        for one in told:
            for lots in graph[one].values():
                self.assertTrue(any(behind in told for behind in lots.values()))

    def check_asks(self, chance, plain, lot):
        habits = plain.habits
        try:
            graph = plain.met(lot, plain.choices)
        except Much:
            for function in (soonest, fewest_asks, plan, net):
                self.assertEqual(refusal(function, habits, lot), 0)
            return "much"
        if len(graph) > 30:
            return "long"
        days, asks = plain.best(graph, lot)
        if len(plain.choices) ** (len(graph) - 1) < 600:
            self.assertEqual((days, asks), plain.best_of_all(graph, lot))
        self.assertEqual(soonest(habits, lot), days)
        self.assertEqual(fewest_asks(habits, lot), asks)
        if days is None:
            self.assertIsNone(plan(habits, lot))
            self.assertIsNone(plan(habits, lot, by="asks"))
            self.check_net(plain, graph, lot, net(habits, lot))
            return "none"
        self.assertIsNone(net(habits, lot))
        self.check_plan(plain, graph, lot, "days", plan(habits, lot), days)
        self.check_plan(plain, graph, lot, "days", plan(habits, lot, by="days"), days)
        self.check_plan(plain, graph, lot, "asks", plan(habits, lot, by="asks"), asks)
        return "some"

    def check_chance_plans(self, chance, plain, lot):
        """Plans and nets by chance are let by just where they're right."""
        try:
            graph = plain.met(lot, plain.choices)
        except Much:
            return
        lots = sorted(set(graph) - {plain.bare})
        if len(lots) > 24:
            return
        for _ in range(4):
            deeds = {one: chance.choice(plain.choices) for one in lots if chance.random() < 0.97}
            told = tuple((one, deeds[one]) for one in sorted(deeds))
            self.assertEqual(keeps(plain.habits, lot, told), plain.rows(graph, lot, deeds))
            nets = tuple(one for one in lots if chance.random() < 0.9)
            right = lot in nets and all(any(behind in nets for behind in after.values())
                                        for one in nets for after in graph[one].values())
            self.assertIs(is_net(plain.habits, lot, nets), right)

    def test_chance_lots(self):
        chance = random.Random(1617)
        counts = {}
        for _ in range(130):
            plain = Plain(chance_habits(chance))
            try:
                lot = chance_lot(chance, plain)
            except Much:
                continue
            self.assertTrue(is_lot(plain.habits, lot))
            for told in ("late " + self.check_late(plain, lot), "asks " + self.check_asks(chance, plain, lot)):
                counts[told] = counts.get(told, 0) + 1
            self.check_chance_plans(chance, plain, lot)
        self.assertEqual(len(counts), 7, counts)
        self.assertGreater(counts["asks none"], 4, counts)


if __name__ == "__main__":
    unittest.main()
