"""Point 17: how soon, and by how few asks, a plan surely ends, and what any thing keeps as a plan."""

import unittest

from cases import Refused
from exact import ASKS_400, ASKS_401, DEED_300, DEED_MORE, NOTED, SLOW
from nameagain.asks import fewest_asks, keeps, net, plan, soonest
from nameagain.errors import NoLot, TooMany
from nameagain.habits import Habits
from nameagain.late import late
from nameagain.lots import is_lot, lot_of, next_lot
from plain_met import Plain
from samples import QUIET, any_things, ask, day, letter, nested, one_folk, pair, put, said, sends, several, wants, way

EMPTY, NOTE, OLD = ((-1,), ()), ((0,), ()), ((1,), ())
SENT = ((-1,), (letter(0),))
BARE = (EMPTY,)
STILL, SAYING, KEEPS = one_folk("still", 2), one_folk("saying", 2), one_folk("still")
LOSES = one_folk("still", out=way("house", "ann", 1, 1, True))
BOTH = several("ann", "bob", kind="still", keep=None)
BURNT, NONE = ("ann", "burnt"), ("ann", "none")
NO_LOTS = [(), [EMPTY], (EMPTY, EMPTY), (NOTE, EMPTY), EMPTY, (((True,), ()),), (((-1,), (ask(0),) * 7),), None, 0]
# ann's letter may still be under way, or she has a note, or nothing is left.
WAIT = ((EMPTY, NOTE), None)
ASK = ((EMPTY, NOTE), "ann")
FIRST = ((SENT,), None)


class Numbers(Refused):
    def told(self, habits, lot, days, asks):
        for found, told in ((soonest(habits, lot), days), (fewest_asks(habits, lot), asks)):
            self.assertEqual(found, told)
            self.assertNotIsInstance(found, bool)
        for by, told, at in (("days", days, 0), ("asks", asks, 1)):
            made = plan(habits, lot, by=by)
            if told is None:
                self.assertIsNone(made)
            else:
                self.assertEqual(keeps(habits, lot, made)[at], told)

    def test_the_bare_stands_alone(self):
        for habits in (STILL, SAYING, KEEPS, LOSES, pair(), BOTH):
            lot = lot_of(habits, (QUIET,))
            self.told(habits, lot, 0, 0)
            self.assertEqual((plan(habits, lot), plan(habits, lot, by="asks"), net(habits, lot)), ((), (), None))

    def test_an_ask_is_sooner(self):
        self.told(STILL, (SENT,), 2, 0)
        self.told(one_folk("still", 3), (SENT,), 2, 0)
        self.told(one_folk("still", 1), (SENT,), 2, 0)
        self.told(STILL, (EMPTY, NOTE), 1, 0)
        self.told(STILL, (OLD,), 1, 0)

    def test_an_ask_must_be(self):
        self.told(KEEPS, (SENT,), 2, 1)
        self.told(KEEPS, (EMPTY, NOTE), 1, 1)
        self.told(one_folk("saying"), (SENT,), 3, 1)
        self.told(one_folk("saying"), (NOTE,), 2, 1)

    def test_one_ask_a_day(self):
        self.told(BOTH, lot_of(BOTH, (sends("ann", "bob"),)), 3, 2)
        self.told(BOTH, lot_of(BOTH, (sends("bob"),)), 2, 1)
        three = several("ann", "bob", "cyd", kind="still", keep=None)
        self.told(three, lot_of(three, (sends("ann", "bob", "cyd"),)), 4, 3)

    def test_a_longer_way(self):
        # An ask that may be ahead of the letter is of no use: one that surely comes behind it takes three days more.
        self.told(one_folk("still", out=way("house", "ann", 1, 3)), (SENT,), 6, 1)
        self.told(one_folk("still", out=way("house", "ann", 1, 2)), (SENT,), 4, 1)
        self.told(one_folk("still", out=way("house", "ann", 3, 3)), (SENT,), 4, 1)
        self.told(one_folk("still", out=way("house", "ann", 2, 2)), (SENT,), 3, 1)

    def test_none_ends(self):
        self.told(LOSES, (SENT,), None, None)
        self.told(pair(), (((-1, -1), (letter(0),)),), None, None)
        self.told(Habits(KEEPS.folk, KEEPS.ways[1:]), (NOTE,), None, None)
        self.told(one_folk("saying", out=way("house", "ann", 1, 1, True)), (SENT,), None, None)

    def test_what_is_lost_is_no_matter_where_all_is_burnt_once(self):
        losing = one_folk("still", 2, out=way("house", "ann", 1, 1, True))
        self.told(losing, (EMPTY, SENT), 3, 0)
        self.assertEqual(late(losing, (EMPTY, SENT)), 3)

    def test_without_ways_from_the_house(self):
        silent = Habits(SAYING.folk, SAYING.ways[1:])
        self.told(silent, (NOTE,), 3, 0)
        self.assertEqual(late(silent, (NOTE,)), 3)

    def test_heard_between(self):
        # Where ann tells that she burnt it there is no need to ask; what is not heard is asked for.
        habits = one_folk("saying", 3)
        self.told(habits, (SENT,), 3, 0)
        self.assertEqual(late(habits, (SENT,)), 5)

    def test_by_names(self):
        self.assertEqual(soonest(habits=STILL, lot=(SENT,)), 2)
        self.assertEqual(fewest_asks(habits=KEEPS, lot=(SENT,)), 1)
        self.assertIsNone(net(habits=STILL, lot=(SENT,)))
        self.assertEqual(keeps(habits=STILL, lot=(SENT,), plan=(WAIT, FIRST)), None)
        self.assertEqual(keeps(habits=STILL, lot=(SENT,), plan=(ASK, FIRST)), (2, 1))
        self.assertEqual(plan(habits=KEEPS, lot=(EMPTY, NOTE), by="asks"), (ASK,))
        with self.assertRaises(TypeError):
            plan(STILL, (SENT,), "asks")


class Plans(Refused):
    def test_told(self):
        self.assertEqual(plan(STILL, (EMPTY, NOTE)), (ASK,))
        self.assertEqual(plan(STILL, (SENT,), by="asks"), (WAIT, ((EMPTY, OLD), None), FIRST))
        days = plan(STILL, (SENT,))
        self.assertEqual(keeps(STILL, (SENT,), days)[0], 2)
        self.assertEqual(plan(STILL, (SENT,), by="days"), days)

    def test_of_the_least_days_where_left_out(self):
        self.assertEqual(keeps(STILL, (SENT,), plan(STILL, (SENT,)))[0], 2)
        self.assertEqual(keeps(STILL, (SENT,), plan(STILL, (SENT,), by="asks")), (3, 0))

    def test_each_is_a_plan(self):
        for habits in (STILL, SAYING, KEEPS, BOTH, several("ann", "bob", keep=2), one_folk("saying", 3)):
            bare = lot_of(habits, (QUIET,))
            for book in ((sends("ann"),), (sends("ann"), wants("ann")), (sends("ann"), QUIET, sends("ann"))):
                lot = lot_of(habits, book)
                for by in ("days", "asks"):
                    told = plan(habits, lot, by=by)
                    self.assertIsInstance(told, tuple)
                    lots = [one for one, _ in told]
                    self.assertEqual(lots, sorted(set(lots)))
                    self.assertTrue(all(is_lot(habits, one) and one != bare for one in lots))
                    self.assertTrue(all(text in (None, "ann", "bob") for _, text in told))
                    self.assertIn(lot, lots)


class Keeps(Refused):
    def keeps(self, told, made, lot=(SENT,), habits=STILL):
        found = keeps(habits, lot, made)
        self.assertEqual(found, told)
        if told is not None:
            self.assertEqual([type(one) for one in (found,) + found], [tuple, int, int])

    def test_what_is_done_at_each_lot(self):
        self.keeps((2, 1), (ASK, FIRST))
        self.keeps((2, 2), (ASK, ((SENT,), "ann")))
        self.keeps((3, 0), (WAIT, ((EMPTY, OLD), None), FIRST))
        self.keeps((3, 1), (WAIT, ((EMPTY, OLD), "ann"), FIRST))
        self.keeps((3, 2), (WAIT, ((EMPTY, OLD), "ann"), ((SENT,), "ann")))

    def test_lots_that_never_come(self):
        self.keeps((2, 1), (ASK, ((EMPTY, OLD), None), FIRST))
        self.keeps((1, 1), (ASK, ((SENT,), "ann")), (EMPTY, NOTE))
        for more in (((NOTE,), "ann"), ((EMPTY, NOTE, OLD), None), ((EMPTY, SENT), None)):
            self.keeps((2, 1), tuple(sorted((ASK, FIRST, more))))

    def test_the_most_of_each_in_any_row(self):
        # Silence is asked about, while a word leads to a note that is waited for.
        habits = several("ann", "bob", keep=3)
        lot = tuple(sorted([((-1, -1), (said(1, "none"),)), ((0, -1), ())]))
        heard, silent = next_lot(habits, lot, (NONE,)), next_lot(habits, lot, ())
        self.assertEqual(heard, (((-1, -1), ()),))
        made = dict(plan(habits, lot, by="asks"))
        self.assertEqual(keeps(habits, lot, tuple(sorted(made.items()))), (4, 0))
        made[silent] = "ann"
        plain = Plain(habits)
        graph = plain.met(lot, plain.choices)
        found = keeps(habits, lot, tuple(sorted(made.items())))
        self.assertEqual(found, plain.rows(graph, lot, made))

    def test_days_of_one_row_and_asks_of_another(self):
        habits = one_folk("saying", 3)
        lot = ((((-1,), (said(1, "none"),)), ((0,), ()), ((0,), (said(1, "burnt"),))))
        lot = tuple(sorted(lot))
        plain = Plain(habits)
        graph = plain.met(lot, plain.choices)
        seen = set()
        for made in list(plain.all_plans(graph))[:4000]:
            told = plain.rows(graph, lot, made)
            self.keeps(told, tuple(sorted(made.items())), lot, habits)
            seen.add(told)
        self.assertGreater(len(seen), 4)

    def test_the_bare_stands_lot(self):
        for made in ((), (ASK,), (ASK, FIRST), (FIRST,), (WAIT, ((EMPTY, OLD), None), ((SENT,), "ann"))):
            self.keeps((0, 0), made, BARE)
        for made in ([], (FIRST, ASK), ((BARE, None),), (ASK, WAIT), ((BARE, "ann"), ASK), None, (((SENT,), "bob"),)):
            self.keeps(None, made, BARE)

    def test_a_lot_left_out_that_comes(self):
        for made in ((), (FIRST,), (ASK,), (WAIT, FIRST), (((EMPTY, OLD), None), FIRST)):
            self.keeps(None, made)
        self.keeps(None, (FIRST,), (EMPTY, NOTE))

    def test_one_that_goes_round_for_ever(self):
        self.keeps(None, (WAIT, FIRST), habits=KEEPS)
        self.keeps((2, 1), (ASK, FIRST), habits=KEEPS)
        self.keeps(None, (WAIT,), (EMPTY, NOTE), KEEPS)
        # An ask that may be lost, asked again and again.
        self.assertEqual(next_lot(LOSES, lot_of(LOSES, (sends("ann"), wants("ann"))), ()), (EMPTY, NOTE))
        for first in (ASK, WAIT):
            self.keeps(None, (first, ((EMPTY, SENT), None)), (EMPTY, SENT), LOSES)

    def test_a_lot_twice(self):
        for made in ((ASK, ASK, FIRST), (ASK, FIRST, FIRST), (FIRST, FIRST, ASK), (WAIT, ASK, FIRST),
                     (ASK, WAIT, FIRST), (ASK, ((SENT,), "ann"), FIRST), (ASK, FIRST, ((SENT,), "ann"))):
            self.keeps(None, made)

    def test_the_bare_stands_lot_among_them(self):
        self.keeps(None, ((BARE, None), ASK, FIRST))
        self.keeps(None, ((BARE, "ann"), ASK, FIRST))

    def test_unsorted(self):
        self.keeps(None, (FIRST, ASK))
        self.keeps(None, (WAIT, FIRST, ((EMPTY, OLD), None)))
        self.keeps(None, (ASK, FIRST, ((EMPTY, OLD), None)))

    def test_texts_of_no_folk_and_without_a_way(self):
        for text in ("bob", "house", "", "Ann", "none", 0, False, True, ("ann",), ["ann"], (), STILL):
            self.keeps(None, (ASK, ((SENT,), text)))
            self.keeps(None, (((EMPTY, NOTE), text), FIRST))
        folk = pair()
        lot = lot_of(folk, (QUIET,))
        other = (((-1, 0), ()),)
        self.keeps((0, 0), ((other, "ann"),), lot, folk)
        self.keeps(None, ((other, "bob"),), lot, folk)
        # At a lot that never comes a text must be one, too.
        self.keeps(None, (ASK, FIRST, ((NOTE,), "bob")))

    def test_other_things(self):
        for made in ([ASK, FIRST], (list(ASK), FIRST), ((*ASK, None), FIRST), (ASK[:1], FIRST), (ASK, (SENT, None)),
                     (ASK, ([SENT], None)), (ASK, ((SENT, SENT), None)), (ASK, FIRST, ()), (ASK, FIRST, None), ASK,
                     ((ASK, FIRST),), ((((-1,), ()), ((False,), ())), "ann")):
            self.keeps(None, made)
            self.keeps(None, made, BARE)

    def test_any_thing(self):
        for thing in any_things() + [nested(9, ASK)]:
            told = (0, 0) if isinstance(thing, tuple) and thing == () else None
            self.keeps(told, thing, BARE)
            self.keeps(None, thing)
            self.keeps(None, (ASK, FIRST, thing))
            for at in (0, 1):
                self.keeps(None, (ASK, put(FIRST, 0, thing)))
                if thing is not None and thing != "ann":
                    self.keeps(None, (put(ASK, 1, thing), FIRST))
                self.keeps(None, put((ASK, FIRST), at, thing))


class Refusals(Refused):
    TOLD = (soonest, fewest_asks, plan, net)

    def test_no_lot(self):
        for thing in any_things() + NO_LOTS:
            for told in self.TOLD:
                self.refused(NoLot, None, told, STILL, thing)
            self.refused(NoLot, None, plan, STILL, thing, by="asks")
            for made in ((), (ASK, FIRST), None):
                self.refused(NoLot, None, keeps, STILL, thing, made)

    def test_just_400_stands_and_one_more(self):
        plain = Plain(SLOW)
        for lot, many in ((ASKS_400, 400), (ASKS_401, 401)):
            self.assertTrue(is_lot(SLOW, lot))
            graph = plain.met(lot, plain.choices, many)
            self.assertEqual(sum(map(len, graph)), many)
        self.assertEqual(soonest(SLOW, ASKS_400), late(SLOW, ASKS_400))
        self.assertEqual(fewest_asks(SLOW, ASKS_400), 0)
        for told in self.TOLD:
            self.refused(TooMany, 0, told, SLOW, ASKS_401)
            self.refused(NoLot, None, told, SLOW, ASKS_401[::-1])
        self.refused(TooMany, 0, plan, SLOW, ASKS_401, by="asks")
        self.assertIsInstance(late(SLOW, ASKS_401), int)

    def test_who_looks_at_a_plan_goes_through_all_of_it(self):
        plain = Plain(SLOW)
        graph = plain.met(ASKS_401, plain.choices, 401)
        made = {lot: None for lot in graph if lot != plain.bare}
        told = keeps(SLOW, ASKS_401, tuple(sorted(made.items())))
        self.assertEqual(told, (late(SLOW, ASKS_401), 0))

    def test_gone_on_from_the_bare_stands_too(self):
        # Whom was asked on each of the last days makes many lots, though nothing is left to be asked about.
        slow = several("ann", "bob", "cyd")
        slow = Habits(slow.folk, tuple(one[:2] + (3, 3) + one[4:] for one in slow.ways))
        lot = lot_of(slow, (QUIET,))
        self.assertEqual((late(slow, lot), keeps(slow, lot, ())), (0, (0, 0)))
        for told in self.TOLD:
            self.refused(TooMany, 0, told, slow, lot)
        word = (((-1,) * 3, (said(1, "none", 2),)),)
        self.assertEqual(keeps(slow, word, ((word, None),)), (1, 0))
        for told in self.TOLD:
            self.refused(TooMany, 0, told, slow, word)

    def test_a_lot_behind_a_deed_that_would_be_none(self):
        # Six things are under way; an ask is a seventh.
        six = (((-1,), (ask(0, 2),) * 6),)
        for lot in (six, (((-1,), (ask(0, 1), letter(0, 1)) + (ask(0, 2),) * 4),)):
            lot = ((lot[0][0], tuple(sorted(lot[0][1]))),)
            self.assertTrue(is_lot(SLOW, lot))
            self.assertIsInstance(late(SLOW, lot), int)
            for told in self.TOLD:
                self.refused(TooMany, 0, told, SLOW, lot)
        self.assertEqual(keeps(SLOW, six, ((six, None),)), (1, 0))
        self.assertIsNone(keeps(SLOW, six, ((six, "ann"),)))

    def test_a_lot_behind_a_deed_of_just_300_stands_and_more(self):
        plain = Plain(NOTED)
        self.assertEqual(len(plain.asked(DEED_300, "ann")), 300)
        self.assertLess(sum(map(len, plain.met(DEED_MORE))), 300)
        self.assertEqual((soonest(NOTED, DEED_300), fewest_asks(NOTED, DEED_300)), (4, 0))
        for told in self.TOLD:
            self.refused(TooMany, 0, told, NOTED, DEED_MORE)
        for lot, kept in ((DEED_300, (4, 1)), (DEED_MORE, None)):
            made = {one: None for one in plain.met(lot) if one != plain.bare}
            self.assertEqual(keeps(NOTED, lot, tuple(sorted(made.items()))), (4, 0))
            made[lot] = "ann"
            for behind in plain.nets_heard(plain.sent(DEED_300, (), ("ann",))).values():
                made.update((one, None) for one in plain.met(behind) if one != plain.bare)
            self.assertEqual(keeps(NOTED, lot, tuple(sorted(made.items()))), kept)

    def test_a_lot_met_that_would_be_none(self):
        six = (((1,), (said(1, "none"),) * 6),)
        slow = one_folk("saying", 2, home=way("ann", "house", 1, 2))
        for told in self.TOLD:
            self.refused(TooMany, 0, told, slow, six)
        after = {heard: stands for heard, stands in Plain(slow).nets_heard(six).items()}
        self.assertGreater(len(after), 0)
        made = {six: None}
        plain = Plain(slow)
        for lot in after.values():
            made.update((one, None) for one in plain.met(lot) if one != plain.bare)
        self.assertIsNone(keeps(slow, six, tuple(sorted(made.items()))))
        for lot in after.values():
            self.assertEqual(keeps(slow, lot, tuple(sorted(made.items()))), (late(slow, lot), 0))

    def test_a_lot_of_more_than_300_stands(self):
        habits = several("ann", "bob", kind="still", keep=2)
        habits = Habits(habits.folk, tuple(one[:2] + ((1, 3, False, True) if one[0] == "house" else one[2:])
                                           for one in habits.ways))
        crowd = lot_of(habits, (day((), ("ann",), ("ann",)), day((), ("bob",), ("bob",))))
        self.refused(TooMany, 0, next_lot, habits, crowd)
        for told in self.TOLD:
            self.refused(TooMany, 0, told, habits, crowd)
        for text in (None, "ann", "bob"):
            self.assertIsNone(keeps(habits, crowd, ((crowd, text),)))


if __name__ == "__main__":
    unittest.main()
