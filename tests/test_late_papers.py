"""Point 16: papers of how late a lot is over, and what is let by as one."""

import random
import unittest

from cases import Refused
from exact import COPIES, CROWD, LATE_401, SLOW
from nameagain.errors import NoLot, TooMany
from nameagain.habits import Habits
from nameagain.late import late, late_paper, shows_late, worst
from nameagain.lots import is_lot, lot_of, next_lot
from plain_met import Plain
from samples import QUIET, any_things, day, letter, nested, one_folk, put, said, sends, several, wants, way

EMPTY, NOTE, OLD = ((-1,), ()), ((0,), ()), ((1,), ())
SENT = ((-1,), (letter(0),))
BARE = (EMPTY,)
STILL = one_folk("still", 2)
ROWS = ((BARE, 0), ((EMPTY, NOTE), 2), ((EMPTY, OLD), 1), ((SENT,), 3))
ROW = ((), (), ())
SAYING = one_folk("saying", 2)
BURNT, NONE = ("ann", "burnt"), ("ann", "none")
KEEPS = one_folk("still")


def plain_rising(rows):
    return list(rows) == sorted(set(rows))


def plain_by(plain, lot, rows, row):
    """Whether rising rows of lots and days, and a row of hearings, are those of a paper, gone through plainly."""
    days = dict(rows)
    if len(days) < len(rows) or not plain_rising(rows) or len(row) != days.get(lot):
        return False
    for one, many in rows:
        if (many == 0) != (one == plain.bare) or many < 0:
            return False
        if many > 0 and not all(behind in days and days[behind] < many for behind in plain.heard(one).values()):
            return False
    for heard in row:
        if lot == plain.bare or heard not in plain.heard(lot):
            return False
        lot = plain.heard(lot)[heard]
    return lot == plain.bare


class Papers(unittest.TestCase):
    def test_over(self):
        self.assertEqual(late_paper(STILL, (SENT,)), ("by", ROWS, ROW))
        self.assertEqual(late_paper(STILL, BARE), ("by", ((BARE, 0),), ()))
        word, rows, row = late_paper(SAYING, (SENT,))
        self.assertEqual((word, row, dict(rows)[(SENT,)]), ("by", ((), (), (), (BURNT,)), 4))

    def test_never(self):
        for habits in (KEEPS, one_folk("saying")):
            word, row, ring = late_paper(habits, (SENT,))
            self.assertEqual(word, "never")
            self.assertGreater(len(ring), 0)
            self.assertIs(shows_late(habits, (SENT,), (word, row, ring)), True)

    def test_each_told_one_is_let_by(self):
        for habits in (STILL, SAYING, KEEPS, one_folk("saying", 3, way("house", "ann", 1, 3, True, True)),
                       several("ann", "bob", keep=2), several("ann", "bob", kind="still", keep=None)):
            for book in ((sends("ann"),), (sends("ann"), wants("ann")), (QUIET,), (day((), ("ann",), ("ann",)), QUIET)):
                lot = lot_of(habits, book)
                told = late_paper(habits, lot)
                self.assertIsInstance(told, tuple)
                self.assertEqual(told[0], "never" if late(habits, lot) is None else "by")
                self.assertIs(shows_late(habits, lot, told), True)
                self.assertIs(shows_late(habits=habits, lot=lot, paper=told), True)


class By(Refused):
    def shows(self, told, habits, lot, paper):
        self.assertIs(shows_late(habits, lot, paper), told)

    def by(self, told, rows, row=ROW, lot=(SENT,), habits=STILL):
        self.shows(told, habits, lot, ("by", rows, row))

    def test_of_each_lot_that_is_there(self):
        self.by(True, ROWS)
        self.by(True, ROWS, ((), ()), (EMPTY, NOTE))
        self.by(True, ROWS, ((),), (EMPTY, OLD))
        self.by(True, ROWS, (), BARE)
        self.by(True, ROWS[:1], (), BARE)
        self.by(False, ROWS, ROW, (NOTE,))
        self.by(False, (), (), BARE)

    def test_lots_that_nobody_needs(self):
        for more in (((NOTE,), 2), ((NOTE,), 77), ((EMPTY, SENT), 3), ((OLD,), 1), ((OLD,), 10 ** 79)):
            self.by(True, tuple(sorted(ROWS + (more,))))
        # Of these, too, each one that may come must be there, with fewer days.
        for more in (((NOTE,), 1), ((OLD,), 0), ((EMPTY, SENT), 2), ((EMPTY, SENT), 0), ((SENT, NOTE), 4),
                     ((NOTE,), -1), ((OLD,), -10 ** 79)):
            self.by(False, tuple(sorted(ROWS + (more,))))
        self.by(True, tuple(sorted(ROWS + (((SENT, NOTE), 4), ((EMPTY, NOTE, OLD), 2)))))
        self.by(True, tuple(sorted(ROWS + (((OLD,), 5), ((NOTE,), 2), ((NOTE, OLD), 3)))))

    def test_more_days_than_must_be(self):
        # The worst row has all that it needs; what comes by another hearing may be said to last longer.
        habits = one_folk("saying", 3)
        lot = (((-1,), (said(1, "none"),)), ((0,), ()))
        rows = dict(late_paper(habits, lot)[1])
        short = next_lot(habits, lot, (NONE,))
        self.assertEqual((short, rows[lot]), (BARE, 4))
        habits = one_folk("saying", 3, home=way("ann", "house", 1, 2))
        lot = lot_of(habits, (day((), ("ann",), ("ann",)), QUIET))
        told = late_paper(habits, lot)
        rows = dict(told[1])
        longer = {one for one in rows if one not in (lot, BARE)
                  and self.with_days(habits, lot, told, one, rows[one] + 1)}
        self.assertGreater(len(longer), 0)
        for one in rows:
            if rows[one] > 0:
                self.assertFalse(self.with_days(habits, lot, told, one, rows[one] - 1))
            self.assertFalse(self.with_days(habits, lot, told, one, rows[lot]) and one != lot)

    def with_days(self, habits, lot, paper, one, days):
        """Whether the paper with these days of this lot is let by, plainly and by the program."""
        rows = tuple(sorted({**dict(paper[1]), one: days}.items()))
        told = plain_by(Plain(habits), lot, rows, paper[2])
        self.shows(told, habits, lot, ("by", rows, paper[2]))
        return told

    def test_a_row_left_out(self):
        for at in range(4):
            self.by(False, ROWS[:at] + ROWS[at + 1:])
        rows = late_paper(SAYING, (SENT,))[1]
        for at in range(len(rows)):
            self.by(False, rows[:at] + rows[at + 1:], worst(SAYING, (SENT,)), (SENT,), SAYING)

    def test_days_too_few_or_too_many(self):
        for at, days in ((0, 1), (0, -1), (1, 1), (1, 3), (1, 0), (2, 0), (2, 2), (2, -1), (3, 2), (3, 0)):
            self.by(False, put(ROWS, at, (ROWS[at][0], days)))
        self.by(False, put(ROWS, 3, ((SENT,), 4)))
        self.by(False, put(ROWS, 3, ((SENT,), 4)), ROW + ((),))
        self.by(False, put(ROWS, 3, ((SENT,), 2)), ROW[:2])

    def test_no_days_of_the_bare_stands_alone(self):
        self.by(False, ((BARE, 0), ((EMPTY, NOTE), 0), ((SENT,), 3)))
        self.by(False, ((BARE, 0), ((SENT,), 0)), ())
        self.by(False, put(ROWS, 0, (BARE, 1)))
        self.by(False, ((BARE, 1),), ((),), BARE)

    def test_truths_are_no_days(self):
        self.by(False, put(ROWS, 0, (BARE, False)))
        self.by(False, put(ROWS, 2, ((EMPTY, OLD), True)))
        self.by(False, put(ROWS, 3, (SENT, 3)))
        self.by(False, put(ROWS, 3, ((((-1,), ((False, "letter", 0, 0, False),)),), 3)))

    def test_twice_and_not_rising(self):
        for at in range(4):
            self.by(False, ROWS[:at] + (ROWS[at],) + ROWS[at:])
        self.by(False, tuple(sorted(ROWS + (((EMPTY, NOTE), 3),))))
        self.by(False, tuple(sorted(ROWS + (((OLD,), 1), ((OLD,), 2)))))
        self.by(False, ROWS[::-1])
        self.by(False, (ROWS[1], ROWS[0]) + ROWS[2:])

    def test_a_row_of_hearings_too_short_or_too_long(self):
        for row in ((), ROW[:1], ROW[:2], ROW + ((),), ROW * 2):
            self.by(False, ROWS, row)
        self.by(False, ROWS, ((),), BARE)
        rows, row = late_paper(SAYING, (SENT,))[1:]
        for bent in (row[:3], row + ((),), row[1:], ((), ()) + row[2:] + ((),)):
            self.by(False, rows, bent, (SENT,), SAYING)

    def test_a_row_that_comes_there_sooner(self):
        rows = late_paper(SAYING, (SENT,))[1]
        self.by(True, rows, ((), (), (), (BURNT,)), (SENT,), SAYING)
        self.by(False, rows, ((), (), (BURNT,), ()), (SENT,), SAYING)
        self.by(False, rows, ((), (), (BURNT,)), (SENT,), SAYING)

    def test_a_row_that_cannot_be_heard(self):
        rows = late_paper(SAYING, (SENT,))[1]
        for row in (((), (), (), ()), ((), (), (), (NONE,)), ((), (), (), (BURNT, BURNT)), ((BURNT,), (), (), ()),
                    ((), (), (), (("bob", "burnt"),)), ((), (), (), [BURNT]), ((), (), (), BURNT),
                    [(), (), (), (BURNT,)], ((), (), (), None), "abcd", 4, None):
            self.by(False, rows, row, (SENT,), SAYING)

    def test_lists_and_other_things(self):
        self.by(False, list(ROWS))
        self.by(False, ROWS, list(ROW))
        self.by(False, ROWS, [[], [], []])
        self.by(False, put(ROWS, 1, list(ROWS[1])))
        self.by(False, put(ROWS, 1, ([EMPTY, NOTE], 2)))
        self.by(False, put(ROWS, 1, ((EMPTY, NOTE), 2, 2)))
        self.by(False, put(ROWS, 1, ((EMPTY, NOTE),)))
        self.by(False, put(ROWS, 1, (EMPTY, NOTE)))
        self.by(False, put(ROWS, 1, ((EMPTY, ((7,), ())), 2)))
        self.by(False, ROWS + (((), 9),))
        for thing in (["by", ROWS, ROW], ("by", ROWS), ("by", ROWS, ROW, ()), ("By", ROWS, ROW), ("by", ROW, ROWS),
                      ("never", ROWS, ROW), ("", ROWS, ROW), (None, ROWS, ROW), (ROWS, ROW), ROWS):
            self.shows(False, STILL, (SENT,), thing)

    def test_any_thing(self):
        for thing in any_things() + [nested(9, ("by", ROWS))]:
            self.shows(False, STILL, (SENT,), thing)
            self.by(False, thing)
            self.by(False, ROWS, thing)
            self.by(False, thing, thing)
            self.shows(False, STILL, (SENT,), (thing, ROWS, ROW))
            for at in range(4):
                self.by(False, put(ROWS, at, thing))
                self.by(False, put(ROWS, at, (thing, ROWS[at][1])))
                if thing != ROWS[at][1] or isinstance(thing, bool):
                    self.by(False, put(ROWS, at, (ROWS[at][0], thing)))
            if thing != () or isinstance(thing, list):
                self.by(False, ROWS, put(ROW, 1, thing))
        self.shows(False, STILL, BARE, None)

    def test_of_another_lot(self):
        self.by(False, ROWS, ROW, (EMPTY, SENT))
        self.by(False, ROWS, ROW, (SENT,), SAYING)
        self.by(False, ROWS, ROW, (SENT,), KEEPS)

    def test_more_than_400_stands(self):
        # Who looks at a paper goes through all of it.
        plain = Plain(SLOW)
        graph = plain.met(LATE_401, (None,), 401)
        self.refused(TooMany, 0, late_paper, SLOW, LATE_401)
        rows = tuple(sorted((lot, plain.late(graph, lot)) for lot in graph))
        row = ((),) * plain.late(graph, LATE_401)
        self.by(True, rows, row, LATE_401, SLOW)
        self.by(False, rows[1:], row, LATE_401, SLOW)

    def test_lots_that_would_be_none(self):
        # A seventh thing would be under way on the next day, whatever stands in the rows.
        habits = one_folk("saying", 2, home=way("ann", "house", 1, 2))
        six = ((1,), (said(1, "none"),) * 6)
        self.assertTrue(is_lot(habits, (six,)))
        rows = ((BARE, 0), ((((-1,), (said(1, "none", 1),) * 6),), 1), ((six,), 2))
        for row in (((NONE,) * 6, (BURNT,)), ((), (NONE,) * 6), ((NONE,) * 3, (NONE,) * 3)):
            self.by(False, rows, row, (six,), habits)
        # Nor is one let by that isn't needed.
        self.by(True, rows[:1], (), BARE, habits)
        self.by(False, rows[:1] + rows[2:], (), BARE, habits)

    def test_lots_of_more_than_300_stands(self):
        plain = Plain(COPIES)
        (crowd,) = plain.stands_heard(CROWD).values()
        crowd = tuple(sorted(crowd))
        notes = plain.heard(crowd)[()]
        rows = tuple(sorted([(CROWD, 3), (crowd, 2), (notes, 1), (plain.bare, 0)]))
        self.by(False, rows, ROW, CROWD, COPIES)
        self.by(False, tuple(row for row in rows if row[0] != crowd), ROW, CROWD, COPIES)
        self.by(True, tuple(row for row in rows if row[1] < 2), ROW[:1], notes, COPIES)
        # Nor where it's one that isn't needed.
        self.by(False, tuple(row for row in rows if row[0] != crowd), ROW[:1], notes, COPIES)

    def test_chance_papers(self):
        chance = random.Random(16)
        counts = {True: 0, False: 0}
        samples = [STILL, SAYING, one_folk("saying", 3, way("house", "ann", 1, 2, True), way("ann", "house", 1, 2)),
                   several("ann", "bob", keep=2), one_folk("saying", 3, way("house", "ann", 1, 3, True, True))]
        for habits in samples:
            plain = Plain(habits)
            lot = plain.sent(plain.bare, ("ann",), ("ann",))
            _, rows, row = late_paper(habits, lot)
            for _ in range(150):
                bent = [list(one) for one in rows]
                at = chance.randrange(len(bent))
                if chance.random() < 0.9:
                    bent[at][1] += chance.choice((1, 1, 1, 2, -1))
                else:
                    bent.pop(at)
                bent = tuple(sorted(map(tuple, bent)))
                told = plain_by(plain, lot, bent, row)
                counts[told] += 1
                self.by(told, bent, row, lot, habits)
                # What is right is bent further, so that more and more lots have more days than must be.
                rows = bent if told else rows
        self.assertGreater(min(counts.values()), 10, counts)


class Never(Refused):
    def never(self, told, row, ring, lot=(SENT,), habits=KEEPS):
        self.assertIs(shows_late(habits, lot, ("never", row, ring)), told)

    def test_rows_and_rings(self):
        for row in ((), ((),)):
            for ring in (((),), ((),) * 5):
                self.never(len(row) > 0, row, ring)
                self.never(True, row, ring, (EMPTY, NOTE))
        self.never(True, ((),) * 40, ((),) * 40)

    def test_an_empty_ring(self):
        self.never(False, ((),), ())
        self.never(False, (), (), (EMPTY, NOTE))

    def test_a_ring_that_does_not_come_back(self):
        self.never(False, (), ((),))
        self.never(False, (), ((), ()))
        self.never(False, (), ((), (), ()), (SENT,), SAYING)
        forever = one_folk("saying")
        burns = ((-1,), (said(1, "burnt"),))
        self.assertEqual(next_lot(forever, (burns, NOTE), ()), (burns, NOTE))
        self.never(True, (), ((),), (burns, NOTE), forever)
        self.never(True, ((), ()), ((),), (SENT,), forever)
        self.never(False, (), ((BURNT,),), (burns, NOTE), forever)
        self.never(False, (), ((), (BURNT,)), (burns, NOTE), forever)
        self.never(False, (), ((NONE,),), (burns, NOTE), forever)

    def test_round_the_bare_stands_alone(self):
        self.never(False, (), ((),), BARE)
        self.never(False, ((),) * 3, ((),), (SENT,), STILL)
        self.never(False, ((), (), (BURNT,)), ((),), (SENT,), SAYING)

    def test_what_cannot_be_heard(self):
        self.never(False, ((NONE,),), ((),))
        for bad in (((("ann", "burnt"),),), ((), None), [()], "a", ((), ("ann",)), None, 0):
            self.never(False, bad, ((),))
            self.never(False, ((),), bad)

    def test_other_kinds(self):
        for paper in (("by", ((),), ((),)), ("never", ((),)), ("never", ((),), ((),), ()), ["never", ((),), ((),)],
                      ("Never", ((),), ((),)), (None, ((),), ((),)), ("never", [()], ((),)), ("never", ((),), [()])):
            self.assertIs(shows_late(KEEPS, (SENT,), paper), False)
        self.assertIs(shows_late(STILL, (SENT,), ("never", ROWS, ROW)), False)

    def test_any_thing(self):
        for thing in any_things() + [nested(9, ("never", ()))]:
            self.assertIs(shows_late(KEEPS, (SENT,), thing), False)
            silent = isinstance(thing, tuple) and set(map(str, thing)) == {"()"}
            self.never(silent, ((),), thing)
            self.never(silent, thing, ((),))
            self.never(silent, thing, thing)
            if thing != () or isinstance(thing, list):
                self.never(False, ((),), ((), thing))
                self.never(False, ((), thing), ((),))

    def test_lots_along_that_would_be_none(self):
        # Behind a night there may be a seventh thing under way; heard so, never so many.
        habits = one_folk("saying", None, home=way("ann", "house", 1, 3))
        six = ((0,), (said(1, "none", 1),) * 6)
        lot = (six,)
        after = next_lot(habits, lot, (NONE,) * 6)
        self.assertEqual(after, (((-1,), (said(1, "burnt"),)), NOTE))
        there = ((), (), ())
        self.never(True, ((NONE,) * 6,) + there, ((),), lot, habits)
        self.refused(TooMany, 0, next_lot, habits, lot, ())
        self.refused(TooMany, 0, late, habits, lot)
        self.never(False, ((), (NONE,) * 6) + there, ((),), lot, habits)
        self.never(False, (), ((), (NONE,) * 6), lot, habits)

    def test_lots_of_more_than_300_stands_along(self):
        ways = (way("house", "ann", 1, 3, False, True), way("house", "bob", 1, 3, False, True), way("ann", "house"),
                way("bob", "house"), way("house", "cyd"), way("cyd", "house"))
        folk = (("ann", "still", 2), ("bob", "still", 2), ("cyd", "still", None))
        habits = Habits(folk, ways)
        lot = lot_of(habits, (day((), ("ann", "cyd"), ("ann",)), QUIET))
        self.never(True, ((),) * 5, ((),), lot, habits)
        crowd = lot_of(habits, (day((), ("ann",), ("ann",)), day((), ("bob", "cyd"), ("bob",))))
        self.assertEqual(len(crowd), 15)
        self.refused(TooMany, 0, next_lot, habits, crowd)
        for many in range(1, 9):
            self.never(False, ((),) * many, ((),), crowd, habits)


class NoLots(Refused):
    def test_refused(self):
        for lot in any_things() + [(), [EMPTY], (NOTE, EMPTY), (((2,), ()),)]:
            for paper in (None, ("by", ROWS, ROW), ("never", (), ((),))):
                self.refused(NoLot, None, shows_late, STILL, lot, paper)


if __name__ == "__main__":
    unittest.main()
