"""Point 11: lots, and the lot of a book."""

import unittest

from cases import Refused
from nameagain.days import bare, is_stand, mornings
from nameagain.errors import NoBook, NoRun, TooMany
from nameagain.habits import Habits
from nameagain.lots import is_lot, lot_of
from plain import plain_evenings, plain_lots, plain_mornings, plain_runs
from samples import (QUIET, any_things, ask, day, hears, letter, nested, one_folk, pair, put, said, sends, several,
                     wants, way)

STILL = one_folk("still", out=way("house", "ann", 1, 2))
SLOW = one_folk("still", 3, out=way("house", "ann", 3, 3))
EMPTY = ((-1,), ())


def asks_of(*days):
    """A stand of SLOW with asks that are so old."""
    return ((-1,), tuple(ask(0, one) for one in days))


def many_stands(many):
    """So many stands of SLOW, rising: three notes or none, up to six asks of three ages."""
    rows = [()]
    for _ in range(6):
        rows = sorted(set(rows) | {tuple(sorted(row + (one,))) for row in rows if len(row) < 6 for one in range(3)})
    stands = sorted((((note,), tuple(ask(0, one) for one in row))) for note in (-1, 0, 1, 2) for row in rows)
    return tuple(stands[:many])


class IsLot(unittest.TestCase):
    def is_lot(self, told, thing, habits=SLOW):
        self.assertIs(is_lot(habits, thing), told)

    def test_one_stand(self):
        self.is_lot(True, (EMPTY,))
        self.is_lot(True, (((2,), (ask(0), letter(0))),))
        self.assertIs(is_lot(habits=SLOW, thing=(EMPTY,)), True)

    def test_rising(self):
        rows = (EMPTY, asks_of(0), asks_of(0, 0), asks_of(0, 1), asks_of(1), ((0,), ()), ((1,), ()))
        self.is_lot(True, rows)
        for at in range(len(rows) - 1):
            self.is_lot(True, rows[at:])
            self.is_lot(False, put(put(rows, at, rows[at + 1]), at + 1, rows[at]))
        self.is_lot(False, rows[::-1])

    def test_alike_stands_twice(self):
        self.is_lot(False, (EMPTY, EMPTY))
        self.is_lot(False, (EMPTY, asks_of(1), asks_of(1)))
        self.is_lot(False, (EMPTY, EMPTY, asks_of(1)))

    def test_one_at_least(self):
        self.is_lot(False, ())

    def test_three_hundred_at_most(self):
        for many in (299, 300):
            self.assertEqual(len(many_stands(many)), many)
            self.is_lot(True, many_stands(many))
        self.is_lot(False, many_stands(301))

    def test_six_under_way_at_most(self):
        six, seven = asks_of(*[1] * 6), asks_of(*[1] * 7)
        self.assertTrue(is_stand(SLOW, seven))
        self.is_lot(True, (six,))
        self.is_lot(False, (seven,))
        self.is_lot(False, (EMPTY, seven))
        self.is_lot(False, (six, seven, ((0,), ())))
        self.is_lot(False, (asks_of(*[1] * 3000),))

    def test_lists(self):
        self.is_lot(False, [EMPTY])
        self.is_lot(False, (list(EMPTY),))
        self.is_lot(False, (([-1], ()),))
        self.is_lot(False, (((-1,), []),))
        self.is_lot(False, (((-1,), (list(ask(0)),)),))
        self.is_lot(False, (EMPTY, list(asks_of(1))))

    def test_no_stands(self):
        for stand in (((-2,), ()), ((3,), ()), ((True,), ()), ((False,), ()), ((-1, -1), ()), asks_of(3), asks_of(1, 0),
                      asks_of(True), ((-1,), ((0, "ask", 1, 0, 0),)), ((-1,), ((0, "none", 1, 0, False),)), ((-1,),),
                      EMPTY + ((),), (EMPTY,)):
            self.is_lot(False, (stand,))
            self.is_lot(False, (EMPTY, stand))

    def test_any_thing(self):
        for thing in any_things() + [nested(10, EMPTY), (EMPTY,) * 10000]:
            self.is_lot(False, thing)
            self.is_lot(False, (thing,))
            self.is_lot(False, (EMPTY, thing))
            self.is_lot(False, (thing, EMPTY))
            self.is_lot(False, (((-1,), thing), EMPTY))
            self.is_lot(False, (EMPTY, (thing, ())))

    def test_of_other_habits(self):
        self.is_lot(True, (((0,), ()),), STILL)
        self.is_lot(False, (((1,), ()),), STILL)
        self.is_lot(False, (((0,), ()),), pair())


class LotOf(Refused):
    def test_by_hand(self):
        sent, later, note = ((-1,), (letter(0),)), ((-1,), (letter(0, 1),)), ((0,), ())
        self.assertEqual(lot_of(STILL, (QUIET,)), (EMPTY,))
        self.assertEqual(lot_of(STILL, (sends("ann"),)), (sent,))
        self.assertEqual(lot_of(habits=STILL, book=(sends("ann"), QUIET)), (EMPTY, later, note))
        self.assertEqual(lot_of(STILL, (sends("ann"), QUIET, QUIET)), (EMPTY, note))
        self.assertEqual(lot_of(STILL, (sends("ann"), wants("ann"))), tuple(
            sorted((stand[0], tuple(sorted(stand[1] + (ask(0),)))) for stand in (EMPTY, later, note))))

    def test_is_a_lot(self):
        for habits, book in ((STILL, (sends("ann"), QUIET)), (pair(), (sends("ann"),) * 5), (pair(), (QUIET,) * 30)):
            lot = lot_of(habits, book)
            self.assertIsInstance(lot, tuple)
            self.assertIs(is_lot(habits, lot), True)

    def test_silent_days_tell_something(self):
        habits = one_folk("saying", 3)
        kept = ((1,), ())
        self.assertEqual(lot_of(habits, (sends("ann"), QUIET, QUIET)), (((-1,), (said(1, "burnt"),)), kept))
        self.assertEqual(lot_of(habits, (sends("ann"), QUIET, hears(("ann", "burnt")))), (EMPTY,))
        self.assertEqual(lot_of(habits, (sends("ann"),) + (QUIET,) * 3),
                         (((-1,), (said(1, "burnt"),)), ((2,), ())))
        self.assertEqual(lot_of(habits, (sends("ann"),) + (QUIET,) * 4), (((-1,), (said(1, "burnt"),)),))
        self.refused(NoRun, 5, lot_of, habits, (sends("ann"),) + (QUIET,) * 5)

    def test_just_the_stands_in_which_runs_end(self):
        losing = one_folk("saying", 2, way("house", "ann", 1, 2, True, True), way("ann", "house", 1, 2, True))
        burnt, none = ("ann", "burnt"), ("ann", "none")
        books = ((losing, (sends("ann"), wants("ann"), QUIET, hears(none))),
                 (losing, (day((), ("ann",), ("ann",)), QUIET, hears(burnt, none))),
                 (pair(2), (sends("ann"), QUIET, sends("ann"), QUIET)),
                 (several("ann", "bob", ways=(way("ann", "bob", 1, 2),)), (sends("ann", "bob"), QUIET, hears(burnt))))
        for habits, book in books:
            ends = sorted({run[-1] for run in plain_runs(habits, book)})
            self.assertGreater(len(ends), 1, book)
            self.assertEqual(lot_of(habits, book), tuple(ends))

    def test_no_book(self):
        self.refused(NoBook, -1, lot_of, STILL, ())
        self.refused(NoBook, 1, lot_of, STILL, (QUIET, hears(("ann", "burnt"))))
        for thing in any_things():
            self.refused(NoBook, None, lot_of, STILL, thing)


class WhichDay(Refused):
    """NoRun and TooMany with the number of the first day that can't be gone, as the plain walk tells."""

    def test_no_run_on_the_first_such_day(self):
        habits = one_folk("saying", 1)
        burnt = ("ann", "burnt")
        self.refused(NoRun, 1, lot_of, habits, (QUIET, hears(burnt)))
        self.refused(NoRun, 1, lot_of, habits, (sends("ann"), hears(burnt), hears(burnt)))
        self.refused(NoRun, 2, lot_of, habits, (sends("ann"), QUIET, hears(burnt, burnt), hears(burnt)))
        self.refused(NoRun, 29, lot_of, habits, (QUIET,) * 29 + (hears(*[burnt] * 50),))
        self.refused(NoRun, 3, lot_of, habits, (sends("ann"), QUIET, QUIET, QUIET, QUIET, hears(burnt)))

    def test_no_run_though_too_many_later(self):
        habits = several("ann", "bob", "cyd")
        every = day((), ("ann", "bob", "cyd"), ("ann", "bob", "cyd"))
        self.refused(NoRun, 1, lot_of, habits, (QUIET, hears(("ann", "none")), every, every))
        self.refused(TooMany, 2, lot_of, habits, (QUIET, every, every, hears(*[("ann", "none")] * 9)))

    def test_no_run_ahead_of_too_many_on_one_day(self):
        habits = Habits((("ann", "still", 3), ("bob", "saying", 1)),
                        (way("house", "ann", 3, 3), way("house", "bob"), way("ann", "house"), way("bob", "house")))
        both, more = day((), ("ann",), ("ann",)), day((), ("ann", "bob"), ("ann", "bob"))
        self.assertEqual(len(lot_of(habits, (both, both, both))[0][1]), 6)
        self.refused(TooMany, 2, lot_of, habits, (both, both, more))
        self.refused(NoRun, 2, lot_of, habits, (both, both, day((("bob", "none"),), *more[1:])))

    def test_more_than_six_by_the_evenings(self):
        habits = Habits(SLOW.folk + (("bob", "still", 1),), SLOW.ways
                        + (way("house", "bob", 3, 3), way("bob", "house")))
        both = day((), ("ann",), ("ann",))
        self.assertEqual(len(lot_of(habits, (both, both, both, QUIET))[0][1]), 4)
        self.assertEqual(len(lot_of(habits, (both, both, both, both))[0][1]), 6)
        self.refused(TooMany, 2, lot_of, habits, (both, both, day((), ("ann", "bob"), ("ann",)), QUIET))
        self.refused(TooMany, 3, lot_of, habits, (both, both, both, day((), ("ann", "bob"), ("ann",))))

    def test_more_than_six_by_the_mornings(self):
        # Each folk answers the ask and may burn the new note; ann may tell the letter on, too.
        texts = ("ann", "bob", "cyd")
        book = (day((), texts, texts), QUIET)
        apart = several(*texts)
        self.assertEqual(max(len(stand[1]) for stand in lot_of(apart, book)), 6)
        told = several(*texts, ways=(way("ann", "bob"),))
        longest = max(len(row[1]) for _, row in plain_mornings(told, plain_evenings(told, bare(told), texts, texts)[0]))
        self.assertEqual(longest, 7)
        self.refused(TooMany, 1, lot_of, told, book)
        self.refused(NoRun, 1, lot_of, told, (book[0], hears(("ann", "none"))))

    def test_three_hundred_mornings_and_one_more(self):
        habits = Habits((("ann", "still", 3), ("bob", "still", 3)),
                        (way("house", "bob", 1, 2, True, True), way("house", "ann", 2, 3, True, True),
                         way("ann", "house"), way("bob", "house")), steps=0)
        book = (day((), ("ann",), ("ann",)), day((), ("ann", "bob"), ("ann",)), QUIET)
        lots = plain_lots(habits, book)
        self.assertEqual(len(lots[-1]), 300)
        self.assertEqual(lot_of(habits, book), lots[-1])
        self.refused(TooMany, 2, lot_of, habits, book[:2] + (sends("ann"),))
        habits = Habits((("bob", "saying", 2), ("hous", "still", 3)),
                        (way("house", "bob", 1, 2), way("house", "hous", 1, 2, False, True), way("bob", "house", 3, 3),
                         way("hous", "house"), way("hous", "bob")), steps=0)
        book = (sends("bob", "hous"), day((), ("hous",), ("bob",)), day((), ("bob",), ("bob", "hous")), QUIET)
        lots = plain_lots(habits, book)
        self.assertEqual(lots[3:], ["TooMany"])
        self.assertEqual(len({morning for stand in lots[2] for _, morning in plain_mornings(habits, stand)}), 301)
        self.assertLessEqual(max(len(row[1]) for stand in lots[2] for _, row in plain_mornings(habits, stand)), 6)
        self.assertEqual(lot_of(habits, book[:3]), lots[2])
        self.refused(TooMany, 3, lot_of, habits, book)
        self.refused(TooMany, 3, lot_of, habits, book + (hears(("bob", "none")),))

    def test_three_hundred_evenings(self):
        habits = Habits((("cyd", "still", None), ("ann", "saying", 2)),
                        (way("ann", "cyd", 2, 2), way("house", "ann", 1, 1, True, True), way("cyd", "house", 2, 2),
                         way("house", "cyd", 1, 2, True, True), way("ann", "house")), steps=2)
        first = day((), ("ann", "cyd"), ("cyd",))
        self.assertEqual(len(lot_of(habits, (first, QUIET))), 75)
        self.assertEqual(len(lot_of(habits, (first, sends("ann")))), 150)
        lots = plain_lots(habits, (first, day((), ("ann",), ("ann",))))
        self.assertEqual(len(lots[-1]), 300)
        self.assertEqual(lot_of(habits, (first, day((), ("ann",), ("ann",)))), lots[-1])
        self.refused(TooMany, 1, lot_of, habits, (first, day((), ("ann", "cyd"), ("ann",))))

    def test_what_would_be_heard_otherwise_is_no_matter(self):
        twice = one_folk("saying", 1, way("house", "ann", 1, 2, False, True), way("ann", "house", 1, 2))
        both = day((), ("ann",), ("ann",))
        none = ("ann", "none")
        lot = lot_of(twice, (both, both))
        otherwise = [row for stand in lot for heard, row in plain_mornings(twice, stand) if heard == ()]
        self.assertGreater(max(len(row[1]) for row in otherwise), 6)
        self.refused(TooMany, 2, lot_of, twice, (both, both, QUIET))
        self.assertEqual(lot_of(twice, (both, both, hears(none))), plain_lots(twice, (both, both, hears(none)))[-1])
        long = one_folk("saying", 1, way("house", "ann", 1, 3, True, True), way("ann", "house", 1, 2))
        lot = lot_of(long, (both, wants("ann")))
        otherwise = {row for stand in lot for heard, row in mornings(long, stand) if heard == ()}
        self.assertGreater(len(otherwise), 300)
        self.refused(TooMany, 2, lot_of, long, (both, wants("ann"), QUIET))
        book = (both, wants("ann"), hears(none))
        self.assertEqual(lot_of(long, book), plain_lots(long, book)[-1])


class HeapsTogether(unittest.TestCase):
    """Point 13: of several heaps a lot is what those of each heap's own habits make, put together in all ways."""

    def test_heaps_put_together(self):
        ann = Habits((("ann", "saying", 2),), (way("house", "ann", 1, 2), way("ann", "house", 1, 2)))
        rest = Habits((("bob", "still", 2), ("cyd", "still", None)),
                      (way("house", "bob"), way("bob", "house"), way("bob", "cyd", 1, 2), way("cyd", "house")))
        both = Habits(ann.folk + rest.folk, ann.ways + rest.ways)
        burnt = ("ann", "burnt")
        first = lot_of(ann, (sends("ann"), wants("ann"), QUIET, hears(burnt)))
        other = lot_of(rest, (sends("bob"), QUIET, wants("bob"), QUIET))
        together = lot_of(both, (sends("ann", "bob"), wants("ann"), wants("bob"), hears(burnt)))
        moved = [(notes, tuple((thing[0] + 2,) + thing[1:] for thing in under)) for notes, under in other]
        self.assertGreater(min(len(first), len(other)), 1)
        self.assertEqual(together, tuple(sorted((one[0] + two[0], one[1] + two[1]) for one in first for two in moved)))


if __name__ == "__main__":
    unittest.main()
