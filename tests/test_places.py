"""Point 13: where something may be, where something must be, and the heaps of the folk."""

import unittest

from cases import Refused
from nameagain.errors import NoLot
from nameagain.habits import Habits
from nameagain.lots import heaps, is_lot, lot_of, may_be, must_be
from samples import QUIET, any_things, ask, letter, one_folk, pair, said, sends, several, way

# The ways, in an order of their own: bob to house, ann to bob, house to bob, house to ann, ann to house.
HABITS = Habits((("bob", "saying", 2), ("ann", "saying", 2)),
                (way("bob", "house"), way("ann", "bob", 1, 2), way("house", "bob", 1, 3, False, True),
                 way("house", "ann"), way("ann", "house")))
BARE = ((-1, -1), ())
BOB, ANN = ("bob",), ("ann",)
BOB_HOME, ANN_BOB, TO_BOB, TO_ANN, ANN_HOME = [one[:2] for one in HABITS.ways]
ALL = [BOB, ANN, BOB_HOME, ANN_BOB, TO_BOB, TO_ANN, ANN_HOME]
FULL = ((0, 1), (said(0, "none"), letter(1, 1, 1), ask(2, 2, True), letter(3), said(4, "burnt")))


class Places(Refused):
    def told(self, lot, may, must):
        self.assertTrue(is_lot(HABITS, lot))
        self.assertEqual(may_be(HABITS, lot), may)
        self.assertEqual(must_be(HABITS, lot), must)

    def test_the_bare_stand_alone(self):
        self.told((BARE,), [], [])
        self.assertEqual(may_be(habits=HABITS, lot=(BARE,)), [])
        self.assertEqual(must_be(habits=HABITS, lot=(BARE,)), [])

    def test_notes_first_then_ways_in_their_order(self):
        self.told((FULL,), ALL, ALL)
        self.told((BARE, FULL), ALL, [])

    def test_one_stand(self):
        for notes, places in (((-1, 0), [ANN]), ((1, -1), [BOB]), ((0, 0), [BOB, ANN])):
            self.told(((notes, ()),), places, places)
        for at in range(5):
            self.told((((-1, -1), (FULL[1][at],)),), [ALL[2 + at]], [ALL[2 + at]])
        self.told((((-1, 1), (said(0, "burnt"), letter(3))),), [ANN, BOB_HOME, TO_ANN], [ANN, BOB_HOME, TO_ANN])

    def test_several_things_on_one_way(self):
        self.told((((-1, -1), (ask(2), ask(2), letter(2))),), [TO_BOB], [TO_BOB])

    def test_several_stands(self):
        one, other = ((-1, 0), (letter(2), letter(3))), ((-1, 1), (said(0, "burnt"), ask(2, 1)))
        self.told((one, other), [ANN, BOB_HOME, TO_BOB, TO_ANN], [ANN, TO_BOB])
        third = ((0, 0), (ask(2, 2),))
        self.told((one, other, third), [BOB, ANN, BOB_HOME, TO_BOB, TO_ANN], [ANN, TO_BOB])
        self.told((BARE, one, other, third), [BOB, ANN, BOB_HOME, TO_BOB, TO_ANN], [])
        self.told((((-1, 0), ()), ((-1, 1), ())), [ANN], [ANN])
        self.told((((-1, 0), ()), ((0, -1), ())), [BOB, ANN], [])

    def test_of_the_lot_of_a_book(self):
        habits = pair(keep=1)
        lot = lot_of(habits, (sends("ann"),))
        self.assertEqual((may_be(habits, lot), must_be(habits, lot)), ([("house", "ann")],) * 2)
        lot = lot_of(habits, (sends("ann"), QUIET))
        self.assertEqual((may_be(habits, lot), must_be(habits, lot)), ([("ann",), ("ann", "bob")], []))

    def test_new_lists(self):
        for told in (may_be, must_be):
            rows = told(HABITS, (FULL,))
            self.assertIsInstance(rows, list)
            rows.clear()
            self.assertEqual(told(HABITS, (FULL,)), ALL)

    def test_no_lot(self):
        for thing in any_things() + [(), [BARE], (BARE, BARE), BARE, (((-1, -1), (ask(2),) * 7),),
                                     (((False, -1), ()),)]:
            self.refused(NoLot, None, may_be, HABITS, thing)
            self.refused(NoLot, None, must_be, HABITS, thing)


class Heaps(unittest.TestCase):
    def told(self, habits, *rows):
        self.assertEqual(heaps(habits), list(rows))

    def test_one_folk(self):
        self.told(one_folk(), ["ann"])
        self.assertEqual(heaps(habits=one_folk()), [["ann"]])

    def test_no_way_between_folk(self):
        self.told(several("ann", "bob", "cyd"), ["ann"], ["bob"], ["cyd"])
        self.told(several("cyd", "bob", "ann"), ["ann"], ["bob"], ["cyd"])

    def test_one_way_either_way_round(self):
        for ends in (("ann", "cyd"), ("cyd", "ann")):
            self.told(several("cyd", "ann", "bob", ways=(way(*ends),)), ["ann", "cyd"], ["bob"])
        for ends in (("bob", "cyd"), ("cyd", "bob")):
            self.told(several("cyd", "ann", "bob", ways=(way(*ends),)), ["ann"], ["bob", "cyd"])
        both = (way("bob", "ann"), way("ann", "bob"))
        self.told(several("cyd", "bob", "ann", ways=both), ["ann", "bob"], ["cyd"])

    def test_three_in_a_row(self):
        texts = ("ann", "bob", "cyd")
        for middle in texts:
            one, other = [text for text in texts if text != middle]
            for ways in ((way(one, middle), way(middle, other)), (way(middle, one), way(middle, other)),
                         (way(one, middle), way(other, middle)), (way(other, middle), way(middle, one))):
                self.told(several("bob", "cyd", "ann", ways=ways), ["ann", "bob", "cyd"])

    def test_all_ways(self):
        texts = ("ann", "bob", "cyd")
        ways = tuple(way(one, other) for one in texts for other in texts if one != other)
        self.told(several("ann", "bob", "cyd", ways=ways), ["ann", "bob", "cyd"])
        self.told(several("ann", "bob", "cyd", ways=ways[::-1]), ["ann", "bob", "cyd"])

    def test_texts_in_order(self):
        self.told(several("b", "ab", "a", ways=(way("b", "a"),)), ["a", "b"], ["ab"])

    def test_new_lists(self):
        habits = pair()
        told = heaps(habits)
        told[0].append("dan")
        told.append(None)
        self.assertEqual(heaps(habits), [["ann", "bob"]])


if __name__ == "__main__":
    unittest.main()
