"""Point 19: rows that part two lots, the least one, and what any thing is as one."""

import unittest

from cases import Refused
from exact import DEED_300, DEED_MORE, NOTED, PAIR_400, PAIR_MORE, ROUND, SLOW
from nameagain.alike import parting, parts
from nameagain.errors import NoLot, TooMany
from nameagain.habits import Habits
from nameagain.lots import is_lot, lot_of
from plain_met import Plain
from samples import QUIET, any_things, ask, day, letter, nested, one_folk, pair, put, said, sends, several, way

EMPTY, NOTE, OLD = ((-1,), ()), ((0,), ()), ((1,), ())
SENT = ((-1,), (letter(0),))
BARE = (EMPTY,)
STILL, SAYING, KEEPS = one_folk("still", 2), one_folk("saying", 2), one_folk("still")
BOTH = several("ann", "bob", kind="still", keep=None)
ANN, BOB = (((0, -1), ()),), (((-1, 0), ()),)
BURNT, NONE = ("ann", "burnt"), ("ann", "none")
SILENT = ((), (), ())
NO_LOTS = [(), [EMPTY], (EMPTY, EMPTY), (NOTE, EMPTY), EMPTY, (((True,), ()),), (((-1,), (ask(0),) * 7),), None, 0]


class Parting(Refused):
    def parting(self, told, habits, one, other):
        for lots in ((one, other), (other, one)):
            found = parting(habits, *lots)
            self.assertEqual(found, told)
            if told is not None:
                self.assertIsInstance(found, tuple)
                self.assertIs(parts(habits, *lots, found), True)
        self.assertEqual(told, Plain(habits).parting(one, other))

    def test_none_parts_equal_lots(self):
        for habits, lot in ((STILL, BARE), (STILL, (SENT,)), (SAYING, (NOTE,)), (KEEPS, (EMPTY, NOTE))):
            self.parting(None, habits, lot, lot)

    def test_none_parts_some_unlike_lots(self):
        # Whether ann still has her note is never told, as long as it may be.
        self.parting(None, KEEPS, (NOTE,), (EMPTY, NOTE))
        self.parting(None, KEEPS, (SENT,), (SENT, NOTE))
        self.parting(None, STILL, (OLD,), (EMPTY, OLD))
        self.parting(None, STILL, (NOTE,), (EMPTY, NOTE, OLD))

    def test_the_row_without_any(self):
        self.parting((), STILL, BARE, (NOTE,))
        self.parting((), SAYING, BARE, (EMPTY, NOTE))
        self.parting((), pair(), lot_of(pair(), (QUIET,)), lot_of(pair(), (sends("ann"),)))

    def test_one_is_clear_sooner(self):
        self.parting((SILENT,), STILL, (NOTE,), (OLD,))
        self.parting((SILENT, SILENT), one_folk("still", 3), (NOTE,), (OLD,))
        self.parting((SILENT,), KEEPS, (NOTE,), (((-1,), (ask(0),)),))

    def test_the_last_is_heard_by_one_alone(self):
        burns, says = ((-1,), (said(1, "burnt"),)), ((-1,), (said(1, "none"),))
        self.parting((((), (), (BURNT,)),), SAYING, (burns,), (says,))
        self.parting((SILENT,), SAYING, (burns,), (OLD,))
        # Both may be silent, and are left then; a letter is no sooner of use than the second silent day.
        self.parting((SILENT, SILENT), SAYING, (NOTE,), (OLD,))

    def test_an_ask_parts(self):
        self.parting((((), ("ann",), ()),), BOTH, ANN, BOB)
        self.parting((((), ("bob",), ()),), BOTH, BOB, tuple(sorted(ANN + BOB)))
        # One of both notes or both: whoever is asked first, the other one may be left.
        self.parting(None, BOTH, tuple(sorted(ANN + BOB)), (((0, 0), ()),))

    def test_the_shortest_ahead_of_the_first_in_order(self):
        # In two silent days one would be clear, but an ask parts them on the first.
        folk = (("ann", "still", 3), ("bob", "still", 3))
        habits = Habits(folk, several("ann", "bob").ways)
        ann, bob = (((1, -1), ()),), (((-1, 0), ()),)
        self.parting((((), ("ann",), ()),), habits, ann, bob)
        without = Habits(folk, tuple(one for one in habits.ways if one[:2] != ("house", "ann")))
        self.parting((((), ("bob",), ()),), without, ann, bob)
        without = Habits(folk, tuple(one for one in habits.ways if one[1] == "house"))
        self.parting((SILENT, SILENT), without, ann, bob)

    def test_letters_behind_asks_in_order(self):
        # An ask and a letter would both part them on the first day; () is first of all.
        habits = Habits((("ann", "still", None), ("bob", "saying", None)), several("ann", "bob").ways)
        word = ((-1, -1), (said(3, "none"),))
        one, other = (word,), (((0, -1), ()),)
        self.parting((SILENT,), habits, one, other)

    def test_hearings_in_order(self):
        burns, says = ((-1,), (said(1, "burnt"),)), ((-1,), (said(1, "none"),))
        told = parting(SAYING, (burns, says), (says,))
        self.assertEqual(told, (((), (), (BURNT,)),))
        self.parting(told, SAYING, (burns, says), (says,))
        self.parting((((), (), (BURNT,)),), SAYING, (burns,), tuple(sorted([says, ((-1,), (said(1, "none"),) * 2)])))

    def test_by_names(self):
        self.assertEqual(parting(habits=STILL, one=BARE, other=(NOTE,)), ())
        self.assertIs(parts(habits=STILL, one=BARE, other=(NOTE,), row=()), True)


class Refusals(Refused):
    def test_no_lot(self):
        for thing in any_things() + NO_LOTS:
            self.refused(NoLot, None, parting, STILL, thing, BARE)
            self.refused(NoLot, None, parting, STILL, BARE, thing)
            for row in ((), None):
                self.refused(NoLot, None, parts, STILL, thing, BARE, row)
                self.refused(NoLot, None, parts, STILL, (NOTE,), thing, row)

    def test_just_400_stands_and_more(self):
        plain = Plain(ROUND)
        self.assertTrue(is_lot(ROUND, PAIR_400) and is_lot(ROUND, PAIR_MORE))
        for one, other, many in ((PAIR_400, PAIR_400, 400), (PAIR_400, PAIR_MORE, 401), (PAIR_MORE, PAIR_400, 401)):
            pairs = plain.pairs(one, other, many)
            self.assertEqual(sum(len(lot) for both in pairs for lot in both), many)
            if many == 400:
                self.assertIsNone(parting(ROUND, one, other))
            else:
                self.refused(TooMany, 0, parting, ROUND, one, other)

    def test_gone_on_from_where_it_is_parted(self):
        bare = lot_of(ROUND, (QUIET,))
        pairs = Plain(ROUND).pairs(PAIR_400, bare)
        self.assertEqual(parting(ROUND, PAIR_400, bare), ())
        self.assertGreater(len(pairs), 1)
        # Of the bare stand's lot, too, all that may be asked comes.
        slow = several("ann", "bob", "cyd")
        slow = Habits(slow.folk, tuple(one[:2] + (3, 3) + one[4:] for one in slow.ways))
        bare, note = lot_of(slow, (QUIET,)), (((0, -1, -1), ()),)
        for one, other in ((bare, note), (bare, bare), (note, bare), (note, note)):
            self.refused(TooMany, 0, parting, slow, one, other)
        self.assertIs(parts(slow, bare, note, ()), True)

    def test_a_lot_behind_a_deed_that_would_be_none(self):
        six = (((-1,), (ask(0, 2),) * 6),)
        self.refused(TooMany, 0, parting, SLOW, six, six)
        self.refused(TooMany, 0, parting, SLOW, six, BARE)
        self.refused(TooMany, 0, parting, SLOW, BARE, six)
        # Without a way from the house there are no deeds.
        silent = Habits(SAYING.folk, SAYING.ways[1:])
        words = (((-1,), (said(0, "none"),) * 6),)
        self.assertEqual(parting(silent, words, (((-1,), (said(0, "none"),) * 5),)), (((), (), (NONE,) * 5),))

    def test_a_lot_behind_a_deed_of_just_300_stands_and_more(self):
        bare = lot_of(NOTED, (QUIET,))
        step = ((), ("ann",), ())
        self.assertEqual(parting(NOTED, DEED_300, bare), ())
        for one, other in ((DEED_MORE, bare), (bare, DEED_MORE)):
            self.refused(TooMany, 0, parting, NOTED, one, other)
            self.assertIs(parts(NOTED, one, other, (step,)), False)
            self.assertIs(parts(NOTED, one, other, (SILENT,)), True)
            self.assertIs(parts(NOTED, one, other, ()), True)
        self.assertIs(parts(NOTED, DEED_300, bare, (step,)), True)

    def test_one_that_comes_by_what_one_alone_hears(self):
        # ann and bob surely burn notes; by one word alone five others would still be under way.
        folk = (("ann", "saying", 1), ("bob", "saying", 1))
        habits = Habits(folk, (way("ann", "house", 1, 2), way("bob", "house", 1, 2)))
        bare = (((-1, -1), ()),)
        for many in range(1, 6):
            lot = (((0, 0), tuple(sorted((said(0, "none", 1),) + (said(0, "none"),) * many))),)
            self.assertTrue(is_lot(habits, lot))
            for one, other in ((lot, bare), (bare, lot)):
                if many < 5:
                    self.assertEqual(parting(habits, one, other), ())
                    self.assertIs(parts(habits, one, other, (((), (), (NONE,)),)), True)
                else:
                    self.refused(TooMany, 0, parting, habits, one, other)
                    self.assertIs(parts(habits, one, other, (((), (), (NONE,)),)), False)
                    self.assertIs(parts(habits, one, other, (((), (), (NONE, NONE)),)), True)
                    self.assertIs(parts(habits, one, other, ()), True)

    def test_one_that_comes_by_what_both_hear(self):
        six = ((0,), (said(1, "none", 1),) * 6)
        habits = one_folk("saying", None, home=way("ann", "house", 1, 3))
        self.refused(TooMany, 0, parting, habits, (six,), (six,))
        self.refused(TooMany, 0, parting, habits, (six,), BARE)
        self.assertIs(parts(habits, (six,), BARE, (SILENT,)), False)
        self.assertIs(parts(habits, (six,), BARE, (((), (), (NONE,) * 6),)), True)

    def test_no_lot_ahead_of_too_many(self):
        self.refused(NoLot, None, parting, ROUND, PAIR_400, PAIR_MORE[::-1])
        self.refused(NoLot, None, parting, ROUND, PAIR_MORE[::-1], PAIR_400)
        self.refused(NoLot, None, parting, ROUND, PAIR_MORE + PAIR_MORE, None)


class Parts(Refused):
    def parts(self, told, habits, one, other, row):
        self.assertIs(parts(habits, one, other, row), told)
        self.assertIs(parts(habits, other, one, row), told)

    def test_the_row_without_any(self):
        self.parts(True, STILL, BARE, (NOTE,), ())
        self.parts(False, STILL, (NOTE,), (OLD,), ())
        self.parts(False, STILL, BARE, BARE, ())
        self.parts(False, STILL, (NOTE,), (NOTE,), ())

    def test_one_is_clear_behind_it(self):
        self.parts(True, STILL, (NOTE,), (OLD,), (SILENT,))
        self.parts(False, STILL, (NOTE,), (OLD,), (SILENT,) * 2)
        self.parts(False, STILL, (NOTE,), (NOTE,), (SILENT,))
        self.parts(True, BOTH, ANN, BOB, (((), ("ann",), ()),))
        self.parts(True, BOTH, ANN, BOB, (((), ("bob",), ()),))
        self.parts(False, BOTH, ANN, BOB, (SILENT,))
        self.parts(False, BOTH, ANN, BOB, ((("ann",), (), ()),))
        # Rows that are longer than must be part them, too.
        self.parts(True, BOTH, ANN, BOB, (SILENT, SILENT, ((), ("ann",), ())))
        self.parts(True, BOTH, ANN, BOB, (((), ("ann",), ()), SILENT))
        self.parts(False, BOTH, ANN, BOB, (((), ("ann",), ()), ((), ("bob",), ())))

    def test_also_where_it_is_parted_already(self):
        self.parts(True, STILL, BARE, (NOTE,), ())
        self.parts(True, STILL, BARE, (NOTE,), (SILENT,))
        self.parts(False, STILL, BARE, (NOTE,), (SILENT,) * 2)
        self.parts(False, STILL, BARE, (OLD,), (SILENT,))

    def test_the_last_is_heard_by_one_alone(self):
        burns, says = ((-1,), (said(1, "burnt"),)), ((-1,), (said(1, "none"),))
        for heard, told in (((BURNT,), True), ((NONE,), True), ((), False), ((BURNT, NONE), False),
                            ((NONE, NONE), False)):
            self.parts(told, SAYING, (burns,), (says,), (((), (), heard),))
            self.parts(told, SAYING, (burns,), (says,), ((("ann",), (), heard),))
        self.parts(True, SAYING, (burns,), (OLD,), (SILENT,))
        self.parts(True, SAYING, (NOTE,), (OLD,), (SILENT, SILENT))
        self.parts(False, SAYING, (NOTE,), (OLD,), (SILENT, ((), (), (BURNT,))))

    def test_none_but_the_last_by_one_alone(self):
        burns, says = ((-1,), (said(1, "burnt"),)), ((-1,), (said(1, "none"),))
        step = ((), (), (BURNT,))
        self.parts(True, SAYING, (burns,), (says,), (step,))
        for more in (SILENT, step, ((), (), (NONE,)), ((), ("ann",), ())):
            self.parts(False, SAYING, (burns,), (says,), (step, more))
        self.parts(False, SAYING, (burns,), (burns,), (SILENT,))
        self.parts(False, SAYING, (burns,), (burns,), (((), (), (NONE,)), step))

    def test_letters_and_asks_of_one_text_together_at_most(self):
        self.parts(True, BOTH, ANN, BOB, (((), ("ann",), ()),))
        for letters, asks in ((("ann",), ("ann",)), (("bob",), ("ann",)), ((), ("ann", "bob")), (("ann", "bob"), ()),
                              (("ann", "bob"), ("ann", "bob")), (("ann",), ("bob",))):
            self.parts(False, BOTH, ANN, BOB, ((letters, asks, ()),))
            self.parts(False, BOTH, ANN, (((-1, -1), ()),), ((letters, asks, ()),))
        self.parts(True, BOTH, ANN, (((-1, -1), ()),), (SILENT,))
        # What is heard then would part them, whatever is sent.
        habits = several("ann", "bob")
        burns, says = (((-1, -1), (said(1, "burnt"),)),), (((-1, -1), (said(1, "none"),)),)
        for letters in ((), ("ann",), ("bob",), ("ann", "bob")):
            for asks in ((), ("ann",), ("bob",), ("ann", "bob")):
                one_text = len(letters) + len(asks) <= 1
                self.parts(one_text, habits, burns, says, ((letters, asks, (BURNT,)),))

    def test_what_is_no_row(self):
        step = ((), ("ann",), ())
        for row in ([step], (list(step),), step, (step, None), (step[:2],), (step + ((),),), (((), ["ann"], ()),),
                    (([], ("ann",), ()),), (((), ("ann",), []),), (((), ("cyd",), ()),), (((), "ann", ()),),
                    (((), ("house",), ()),), (((), ("ann",), None),), (((), None, ()),), ((None, ("ann",), ()),),
                    (((), ("ann",), (("ann", "burnt"),)),), (((), ("ann",), (("cyd", "none"),)),), "row", None, 0, {}):
            self.parts(False, BOTH, ANN, BOB, row)
        self.parts(False, SAYING, (((-1,), (said(1, "none"),)),), (NOTE,), (((), (), (NONE, BURNT)),))
        self.parts(False, pair(), (((0, -1), ()),), (((-1, 0), ()),), (((), ("bob",), ()),))

    def test_any_thing(self):
        for thing in any_things() + [nested(9, SILENT)]:
            self.parts(isinstance(thing, tuple) and thing == (), STILL, BARE, (NOTE,), thing)
            self.parts(False, STILL, (NOTE,), (OLD,), thing)
            self.parts(False, STILL, (NOTE,), (OLD,), (thing,))
            if not isinstance(thing, tuple) or thing != ():
                for at in range(3):
                    self.parts(False, STILL, (NOTE,), (OLD,), (put(SILENT, at, thing),))
            self.parts(False, STILL, (NOTE,), (OLD,), (SILENT, thing))

    def test_of_a_book_by_other_deeds(self):
        one = lot_of(STILL, (sends("ann"), QUIET))
        other = lot_of(STILL, (sends("ann"), day((), (), ("ann",))))
        self.assertEqual(parting(STILL, one, other), (SILENT,))
        self.parts(True, STILL, one, other, (SILENT,))


if __name__ == "__main__":
    unittest.main()
