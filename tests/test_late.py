"""Point 16: how late it is at the worst, and the rows of the worst."""

import unittest

from cases import Refused
from exact import COPIES, CROWD, LATE_400, LATE_401, SLOW
from nameagain.errors import NoLot, TooMany
from nameagain.habits import Habits
from nameagain.late import late, late_paper, worst
from nameagain.lots import is_lot, lot_of, next_lot
from plain_met import Plain
from samples import QUIET, any_things, ask, day, letter, one_folk, pair, said, sends, several, way

EMPTY, NOTE, OLD = ((-1,), ()), ((0,), ()), ((1,), ())
SENT = ((-1,), (letter(0),))
BARE = (EMPTY,)
STILL = one_folk("still", 2)
SAYING = one_folk("saying", 2)
BURNT, NONE = ("ann", "burnt"), ("ann", "none")
NO_LOTS = [(), [EMPTY], (EMPTY, EMPTY), (NOTE, EMPTY), EMPTY, (((True,), ()),), (((-1,), (ask(0),) * 7),), None, 0]


class Late(Refused):
    def late(self, told, habits, lot):
        found = late(habits, lot)
        self.assertEqual(found, told)
        self.assertNotIsInstance(found, bool)

    def test_the_bare_stands_alone(self):
        for habits in (STILL, SAYING, pair(), several("ann", "bob", "cyd")):
            self.late(0, habits, lot_of(habits, (QUIET,)))
            self.assertEqual(worst(habits, lot_of(habits, (QUIET,))), ())

    def test_a_note_is_kept(self):
        for keep, told in ((1, 2), (2, 3), (3, 4), (None, None)):
            habits = one_folk("still", keep)
            self.late(told, habits, (SENT,))
        self.late(2, STILL, (NOTE,))
        self.late(1, STILL, (OLD,))
        self.late(2, STILL, (EMPTY, NOTE))
        self.late(2, STILL, (EMPTY, NOTE, OLD))

    def test_a_way_takes_its_most_days(self):
        for least, most in ((1, 1), (1, 2), (2, 2), (1, 3), (3, 3)):
            habits = one_folk("still", 1, out=way("house", "ann", least, most))
            self.late(most + 1, habits, (SENT,))

    def test_a_copy_comes_later(self):
        habits = one_folk("still", 2, out=way("house", "ann", 1, 3, False, True))
        self.late(5, habits, (SENT,))
        self.late(3, habits, (((-1,), (letter(0, 2, 0, True),)),))

    def test_an_ask_alone(self):
        self.late(1, STILL, (((-1,), (ask(0),)),))
        self.late(2, SAYING, (((-1,), (ask(0),)),))
        self.late(2, one_folk("saying", None, home=way("ann", "house", 1, 3, True)),
                  (((-1,), (said(1, "none", 1),)),))

    def test_words_home(self):
        self.late(4, SAYING, (SENT,))
        self.late(6, one_folk("saying", 2, home=way("ann", "house", 1, 3)), (SENT,))
        self.late(6, one_folk("saying", 2, home=way("ann", "house", 3, 3)), (SENT,))

    def test_told_on(self):
        # ann has a letter, tells bob on her first day, who has one a day later; notes are kept a day.
        self.late(3, pair(keep=1), (((-1, -1), (letter(0),)),))
        self.late(4, pair(keep=1, told=way("ann", "bob", 1, 2)), (((-1, -1), (letter(0),)),))
        self.late(2, pair(keep=1, steps=0), (((-1, -1), (letter(0),)),))
        self.late(3, pair(keep=1, steps=2), (((-1, -1), (letter(0),)),))

    def test_never(self):
        for kind in ("still", "saying"):
            self.late(None, one_folk(kind), (SENT,))
            self.late(None, one_folk(kind), (NOTE,))
            self.late(None, one_folk(kind), (EMPTY, NOTE))
            self.late(1, one_folk("still"), (((-1,), (ask(0),)),))
        self.late(None, pair(), (((-1, -1), (letter(0),)),))
        # Two that tell each other have notes of a day, but letters go round three times at most.
        round_about = several("ann", "bob", kind="still", ways=(way("ann", "bob"), way("bob", "ann")))
        self.late(3, round_about, (((-1, -1), (letter(0),)),))
        self.late(4, Habits(round_about.folk, round_about.ways, steps=2), (((-1, -1), (letter(0),)),))

    def test_days_behind_books(self):
        for many, told in ((0, 3), (1, 2), (2, 1), (3, 0), (20, 0)):
            self.late(told, STILL, lot_of(STILL, (sends("ann"),) + (QUIET,) * many))

    def test_by_names(self):
        self.assertEqual(late(habits=STILL, lot=(SENT,)), 3)
        self.assertEqual(worst(habits=STILL, lot=(SENT,)), ((),) * 3)
        self.assertEqual(late_paper(habits=STILL, lot=BARE), ("by", ((BARE, 0),), ()))


class Worst(Refused):
    def heard(self, habits, lot, told):
        """The row is as long as late tells, and leads to the bare stand's lot, not sooner."""
        row = worst(habits, lot)
        self.assertIsInstance(row, tuple)
        self.assertEqual((len(row), late(habits, lot)), (told, told))
        for heard in row:
            self.assertNotEqual(lot, lot_of(habits, (QUIET,)))
            lot = next_lot(habits, lot, heard)
        self.assertEqual(lot, lot_of(habits, (QUIET,)))

    def test_by_silent_days(self):
        self.heard(STILL, (SENT,), 3)
        self.assertEqual(worst(STILL, (SENT,)), ((), (), ()))

    def test_by_words(self):
        self.assertEqual(worst(SAYING, (SENT,)), ((), (), (), (BURNT,)))
        for keep, home, told in ((1, (1, 1), 3), (2, (1, 2), 5), (3, (2, 3), 7)):
            self.heard(one_folk("saying", keep, home=way("ann", "house", *home)), (SENT,), told)
        self.heard(several("ann", "bob", keep=2), lot_of(several("ann", "bob", keep=2), (sends("ann", "bob"),)), 4)

    def test_words_that_tell_sooner_are_not_the_worst(self):
        habits = one_folk("saying", 3)
        lot = lot_of(habits, (day((), ("ann",), ("ann",)),))
        self.heard(habits, lot, 5)

    def test_never(self):
        for habits in (one_folk("still"), one_folk("saying")):
            self.assertIsNone(worst(habits, (SENT,)))
        self.assertIsNone(worst(pair(), (((-1, -1), (letter(0),)),)))


class Refusals(Refused):
    def test_no_lot(self):
        for told in (late, late_paper, worst):
            for thing in any_things() + NO_LOTS:
                self.refused(NoLot, None, told, STILL, thing)
            self.refused(NoLot, None, told, STILL, (((2,), ()),))
            self.refused(NoLot, None, told, SAYING, (((-1, -1), ()),))

    def test_just_400_stands_and_one_more(self):
        plain = Plain(SLOW)
        for lot, many in ((LATE_400, 400), (LATE_401, 401)):
            self.assertTrue(is_lot(SLOW, lot))
            self.assertEqual(sum(map(len, plain.met(lot, (None,), many))), many)
        self.assertEqual(late(SLOW, LATE_400), plain.late(plain.met(LATE_400), LATE_400))
        self.assertEqual(len(worst(SLOW, LATE_400)), late(SLOW, LATE_400))
        for told in (late, late_paper, worst):
            self.refused(TooMany, 0, told, SLOW, LATE_401)

    def test_each_lot_counts_once(self):
        # By each of many hearings the same few lots come.
        habits = several("ann", "bob", "cyd", keep=None)
        words = tuple(said(at, word) for at in (1, 3, 5) for word in ("burnt", "none"))
        lot = tuple(sorted(((-1,) * 3, tuple(sorted(words[:many]))) for many in range(1, 7)))
        self.assertEqual(late(habits, lot), 1)

    def test_a_lot_met_that_would_be_none(self):
        # Six words wait, and a seventh is sent.
        six = ((1,), (said(1, "none"),) * 6)
        slow = one_folk("saying", 2, home=way("ann", "house", 1, 2))
        self.assertTrue(is_lot(slow, (six,)))
        for told in (late, late_paper, worst):
            self.refused(TooMany, 0, told, slow, (six,))
        self.assertEqual(late(slow, (((-1,), (said(1, "none"),) * 6),)), 2)
        # Of one hearing alone it would be none.
        waits = ((0,), (said(1, "none"),) * 6)
        slower = one_folk("saying", 1, home=way("ann", "house", 1, 3))
        self.assertEqual(len(next_lot(slower, (waits,), (NONE,))), 1)
        for told in (late, late_paper, worst):
            self.refused(TooMany, 0, told, slower, (waits,))

    def test_a_lot_met_of_more_than_300_stands(self):
        habits = Habits(tuple((text, "still", 2) for text in ("ann", "bob")),
                        (way("house", "ann", 1, 3, False, True), way("house", "bob", 1, 3, False, True),
                         way("ann", "house"), way("bob", "house")))
        lot = lot_of(habits, (day((), ("ann",), ("ann",)), day((), ("bob",), ("bob",))))
        self.assertEqual(len(lot), 15)
        for told in (late, late_paper, worst):
            self.refused(TooMany, 0, told, habits, lot)
            self.refused(NoLot, None, told, habits, lot[::-1])

    def test_a_lot_met_of_more_than_300_stands_though_all_together_are_fewer_than_400(self):
        plain = Plain(COPIES)
        (crowd,) = plain.stands_heard(CROWD).values()
        (after,) = plain.stands_heard(crowd).values()
        self.assertEqual((len(crowd), len(after)), (361, 4))
        for told in (late, late_paper, worst):
            self.refused(TooMany, 0, told, COPIES, CROWD)
        self.assertEqual(late(COPIES, (((-1, -1), CROWD[0][1][:5]),)), 3)

    def test_no_lot_ahead_of_too_many(self):
        for told in (late, late_paper, worst):
            self.refused(NoLot, None, told, SLOW, LATE_401[::-1])
            self.refused(NoLot, None, told, SLOW, LATE_401 + LATE_401[-1:])
            self.refused(NoLot, None, told, SLOW, list(LATE_401))


if __name__ == "__main__":
    unittest.main()
