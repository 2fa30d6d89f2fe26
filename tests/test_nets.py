"""Point 17: nets, that show that no plan ends."""

import unittest
from itertools import product

from cases import Refused
from exact import ASKS_401, SLOW
from nameagain.asks import is_net, net, plan, soonest
from nameagain.errors import NoLot, TooMany
from nameagain.habits import Habits
from nameagain.lots import is_lot, lot_of, next_lot
from plain_met import Plain
from samples import any_things, ask, day, letter, nested, one_folk, pair, put, said, several, way

EMPTY, NOTE = ((-1,), ()), ((0,), ())
SENT = ((-1,), (letter(0),))
BARE = (EMPTY,)
STILL = one_folk("still", 2)
# ann keeps her note as long as she likes, and an ask may be lost.
LOSES = one_folk("still", out=way("house", "ann", 1, 1, True))
LOT = (EMPTY, NOTE)
# ann keeps hers, too; the house has no way to her, and what she says takes up to three days.
UNASKED = Habits((("ann", "saying", None),), (way("ann", "house", 1, 3),))


class Told(Refused):
    def test_just_where_no_plan_ends(self):
        for habits, lot, ends in ((LOSES, (SENT,), False), (LOSES, LOT, False), (LOSES, BARE, True),
                                  (STILL, (SENT,), True), (one_folk("still"), (SENT,), True), (UNASKED, (NOTE,), False),
                                  (pair(), (((-1, -1), (letter(0),)),), False), (UNASKED, BARE, True)):
            told = net(habits, lot)
            self.assertEqual((told is None, plan(habits, lot) is None, soonest(habits, lot) is None),
                             (ends, not ends, not ends))
            if not ends:
                self.assertIsInstance(told, tuple)
                self.assertTrue(all(is_lot(habits, one) for one in told))
                self.assertIs(is_net(habits, lot, told), True)
                self.assertIs(is_net(habits=habits, lot=lot, net=told), True)

    def test_by_names(self):
        self.assertEqual(net(habits=LOSES, lot=LOT), (LOT,))

    def test_refused(self):
        for thing in any_things() + [(), [EMPTY], (NOTE, EMPTY), (((2,), ()),)]:
            self.refused(NoLot, None, net, STILL, thing)
            self.refused(NoLot, None, is_net, STILL, thing, (LOT,))
            self.refused(NoLot, None, is_net, STILL, thing, None)
        self.refused(TooMany, 0, net, SLOW, ASKS_401)


class LetBy(Refused):
    def net(self, told, thing, lot=LOT, habits=LOSES):
        self.assertIs(is_net(habits, lot, thing), told)

    def test_by_each_deed_one_may_come_that_is_there(self):
        self.net(True, (LOT,))
        self.net(True, (LOT, (SENT,)), (SENT,))
        self.net(False, ((SENT,),), (SENT,))
        self.net(False, (LOT,), habits=one_folk("still"))
        self.net(False, (LOT,), habits=STILL)
        self.net(True, ((EMPTY, SENT), LOT), (EMPTY, SENT))

    def test_lots_that_nobody_needs(self):
        self.net(True, (LOT, (SENT,)))
        self.net(True, ((EMPTY, SENT), LOT, (SENT,), (NOTE,)), (NOTE,))
        self.net(True, ((EMPTY, SENT), LOT, (SENT,), (NOTE,)), (EMPTY, SENT))
        # Of these, too, by each deed one must come that is there.
        self.net(False, (LOT, (((-1,), (ask(0),)),)))

    def test_of_a_lot_by_hearings(self):
        burns = ((-1,), (said(1, "burnt"),))
        losing = one_folk("saying", out=way("house", "ann", 1, 1, True))
        self.net(True, net(losing, (SENT,)), (SENT,), losing)
        self.assertIn((burns, NOTE), net(losing, (SENT,)))
        for one in net(losing, (SENT,)):
            self.net(True, net(losing, (SENT,)), one, losing)

    def test_one_left_out(self):
        losing = one_folk("saying", out=way("house", "ann", 1, 1, True))
        plain = Plain(losing)
        told = net(losing, (SENT,))
        seen = set()
        for at in range(len(told)):
            bent = told[:at] + told[at + 1:]
            right = (SENT,) in bent and all(
                any(behind in bent for behind in plain.heard(plain.asked(one, text)).values())
                for one in bent for text in plain.choices)
            seen.add(right)
            self.net(right, bent, (SENT,), losing)
        self.assertIn(False, seen)

    def test_the_bare_stands_lot_among_them(self):
        self.net(False, (BARE, LOT))
        self.net(False, (BARE, LOT), BARE)
        self.net(False, (BARE,), BARE)
        self.net(False, (LOT,), BARE)
        self.net(False, (), BARE)

    def test_the_asked_one_left_out(self):
        self.net(False, ())
        self.net(False, (LOT,), (SENT,))
        self.net(False, (LOT,), (NOTE,))
        self.net(False, ((SENT,),))

    def test_twice_and_unsorted(self):
        self.net(False, (LOT, LOT))
        self.net(False, ((SENT,), LOT))
        self.net(True, tuple(sorted(((SENT,), LOT))))
        self.net(False, (LOT, (SENT,), (SENT,)), (SENT,))

    def test_other_things(self):
        for thing in ([LOT], (list(LOT),), LOT, (LOT, None), (LOT, ()), ((EMPTY, ((False,), ())),), ((NOTE, EMPTY),),
                      (LOT, (((0,), (ask(0),) * 7),)), ((EMPTY, NOTE, NOTE),), ((LOT,),), {}, "net"):
            self.net(False, thing)

    def test_any_thing(self):
        for thing in any_things() + [nested(9, LOT)]:
            self.net(False, thing)
            self.net(False, (thing,))
            self.net(False, (LOT, thing))
            self.net(False, put((LOT, (SENT,)), 1, thing))

    def test_more_than_400_stands(self):
        # Stands with asks alone are bare the next day; of each lot with one of the others LOT comes.
        asks = [((-1,), (ask(0),) * many) for many in range(1, 6)]
        lots = {LOT}
        for row in product((False, True), repeat=5):
            kept = tuple(stand for stand, there in zip(asks, row) if there)
            lots |= {tuple(sorted(kept + others)) for others in ((NOTE,), (SENT,), (NOTE, SENT), LOT)}
        told = tuple(sorted(lots))
        self.assertGreater(sum(map(len, told)), 400)
        self.net(True, told)
        self.net(True, told, told[-1])
        self.net(False, tuple(one for one in told if one != LOT), told[0])
        self.net(False, tuple(sorted(told + ((asks[0],),))))


class LotsThatWouldBeNone(Refused):
    def test_behind_a_deed(self):
        # Six things are under way, and the ask may be lost; a seventh can't be sent all the same.
        habits = one_folk("still", None, out=way("house", "ann", 3, 3, True))
        six = ((0,), (letter(0, 2),) * 6)
        note = Plain(habits).heard((six,))[()]
        self.assertEqual(note, LOT)
        five = ((0,), (letter(0, 2),) * 5)
        plain = Plain(habits)
        lots, waiting = set(), [(five,)]
        while waiting:
            one = waiting.pop()
            if one not in lots:
                lots.add(one)
                waiting += [behind for text in plain.choices for behind in plain.heard(plain.asked(one, text)).values()]
        self.assertIs(is_net(habits, (five,), tuple(sorted(lots))), True)
        lots.add((six,))
        self.assertIs(is_net(habits, (six,), tuple(sorted(lots))), False)
        self.refused(TooMany, 0, net, habits, (six,))

    def test_by_other_hearings_they_do_not_matter(self):
        six = (((0,), (said(0, "none", 1),) * 6),)
        self.refused(TooMany, 0, net, UNASKED, six)
        self.refused(TooMany, 0, next_lot, UNASKED, six)
        after = next_lot(UNASKED, six, (("ann", "none"),) * 6)
        lots = {six}
        while after not in lots:
            lots.add(after)
            after = next_lot(UNASKED, after, ())
        self.assertIs(is_net(UNASKED, six, tuple(sorted(lots))), True)
        # Silently there would be a seventh thing under way, so that none comes so.
        lots.remove(next_lot(UNASKED, six, (("ann", "none"),) * 6))
        self.assertIs(is_net(UNASKED, six, tuple(sorted(lots))), False)

    def test_more_than_300_stands(self):
        folk = (("ann", "still", 2), ("bob", "still", 2), ("cyd", "still", None))
        ways = (way("house", "ann", 1, 3, False, True), way("house", "bob", 1, 3, False, True)) + tuple(
            way(text, "house") for text in ("ann", "bob", "cyd"))
        habits = Habits(folk, ways)
        note = (((-1, -1, 0), ()),)
        crowd = lot_of(habits, (day((), ("ann",), ("ann",)), day((), ("bob",), ("bob",))))
        crowd = tuple((stand[0][:2] + (0,), stand[1]) for stand in crowd)
        self.assertTrue(is_lot(habits, crowd))
        self.refused(TooMany, 0, next_lot, habits, crowd)
        told = net(several("ann", kind="still", keep=None), (NOTE,))
        self.assertIsNone(told)
        told = net(Habits(folk, ways), note)
        self.assertIs(is_net(habits, note, told), True)
        self.assertIs(is_net(habits, crowd, tuple(sorted(told + (crowd,)))), False)
        self.assertIs(is_net(habits, note, tuple(sorted(told + (crowd,)))), False)


if __name__ == "__main__":
    unittest.main()
