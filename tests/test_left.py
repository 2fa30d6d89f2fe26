"""Point 14: whether a name is clear or left, and the papers that show it."""

import unittest

from cases import Refused
from nameagain.days import bare
from nameagain.errors import NoBook, NoRun, TooMany
from nameagain.habits import Habits
from nameagain.left import is_clear, paper, shows
from nameagain.lots import is_lot, lot_of
from nameagain.runs import fails, run_to
from plain import plain_lots, plain_next, plain_runs
from samples import (QUIET, any_things, ask, day, hears, letter, nested, one_folk, pair, put, said, sends, several,
                     wants, way)

EMPTY, NOTE, OLD = ((-1,), ()), ((0,), ()), ((1,), ())
SENT = ((-1,), (letter(0),))
BARE = (EMPTY,)
# ann is still and keeps a note for two days; a letter takes one.
STILL = one_folk("still", 2)
GONE = (sends("ann"), QUIET, QUIET, QUIET)
GONE_LOTS = ((SENT,), (EMPTY, NOTE), (EMPTY, OLD), BARE)
SAYING = one_folk("saying", 2)
BURNT = ("ann", "burnt")
TOLD = (sends("ann"), QUIET, hears(BURNT))
NOT_HEARD = (QUIET, hears(BURNT), QUIET)
# What is sent on three days is under way at once, if it isn't lost.
LOSING = Habits((("ann", "still", 1), ("bob", "still", 1)),
                (way("house", "ann", 3, 3, True), way("ann", "house"), way("house", "bob", 3, 3, True),
                 way("bob", "house")))
ALL = day((), ("ann", "bob"), ("ann", "bob"))


class Clear(Refused):
    def clear(self, told, habits, *book):
        self.assertIs(is_clear(habits, book), told)

    def test_without_deeds(self):
        for many in (1, 2, 30):
            self.clear(True, STILL, *[QUIET] * many)
            self.clear(True, pair(), *[QUIET] * many)

    def test_behind_letters(self):
        self.clear(False, STILL, sends("ann"))
        self.clear(False, STILL, QUIET, wants("ann"))
        self.clear(False, one_folk("still", out=way("house", "ann", 1, 1, True)), sends("ann"))
        self.clear(False, one_folk("still"), sends("ann"), *[QUIET] * 29)

    def test_behind_enough_silent_days(self):
        for many, told in ((1, False), (2, False), (3, False), (4, True)):
            self.clear(told, STILL, *GONE[:many])
        self.clear(True, STILL, *GONE, *[QUIET] * 20)
        self.clear(False, STILL, *GONE, sends("ann"))
        self.clear(True, STILL, *GONE, *GONE)

    def test_behind_words(self):
        self.clear(False, SAYING, *TOLD[:2])
        self.clear(True, SAYING, *TOLD)
        self.clear(False, SAYING, sends("ann"), QUIET, QUIET)

    def test_an_ask_behind_a_letter(self):
        self.clear(True, STILL, sends("ann"), wants("ann"), QUIET)
        self.clear(False, STILL, sends("ann"), sends("ann"), QUIET, QUIET)
        self.clear(False, pair(), sends("ann"), wants("ann"), QUIET)

    def test_just_where_the_lot_has_the_bare_stand_alone(self):
        for habits, book in ((STILL, GONE), (SAYING, TOLD), (pair(), (sends("ann"), wants("ann"), QUIET))):
            for many in range(1, len(book) + 1):
                ends = {run[-1] for run in plain_runs(habits, book[:many])}
                self.clear(ends == {bare(habits)}, habits, *book[:many])

    def test_by_names(self):
        self.assertIs(is_clear(habits=STILL, book=GONE), True)

    def test_refused(self):
        for told in (is_clear, paper):
            self.refused(NoBook, -1, told, STILL, ())
            self.refused(NoBook, 1, told, STILL, (QUIET, hears(BURNT)))
            self.refused(NoRun, 1, told, SAYING, NOT_HEARD)
            self.refused(TooMany, 1, told, LOSING, (ALL, ALL, QUIET))
            for thing in any_things():
                self.refused(NoBook, None, told, STILL, thing)


class Papers(unittest.TestCase):
    def test_left(self):
        for habits, book in ((STILL, GONE[:3]), (SAYING, TOLD[:2]), (STILL, (sends("ann"),)),
                             (pair(), (sends("ann"),) * 4)):
            word, run = paper(habits, book)
            self.assertEqual(word, "left")
            self.assertIsNone(fails(habits, book, run))
            self.assertNotEqual(run[-1], bare(habits))
            self.assertIs(shows(habits, book, (word, run)), True)

    def test_clear(self):
        for habits, book in ((STILL, GONE), (SAYING, TOLD), (pair(), (QUIET,) * 30), (STILL, GONE * 7),
                             (STILL, (QUIET,))):
            word, lots = paper(habits, book)
            self.assertEqual((word, len(lots)), ("clear", len(book)))
            self.assertTrue(all(is_lot(habits, lot) for lot in lots))
            for at in range(len(book)):
                self.assertLessEqual(set(lot_of(habits, book[:at + 1])), set(lots[at]))
            self.assertEqual(lots[-1], (bare(habits),))
            self.assertIs(shows(habits, book, (word, lots)), True)

    def test_by_names(self):
        told = paper(habits=STILL, book=GONE)
        self.assertIsInstance(told, tuple)
        self.assertIs(shows(habits=STILL, book=GONE, paper=told), True)


class Shows(Refused):
    def shows(self, told, habits, book, thing):
        self.assertIs(shows(habits, book, thing), told)

    def test_left(self):
        book = GONE[:3]
        self.shows(True, STILL, book, ("left", (SENT, NOTE, OLD)))
        self.shows(False, STILL, book, ("left", (SENT, NOTE, EMPTY)))
        self.shows(False, STILL, book, ("left", (SENT, EMPTY, EMPTY)))
        self.shows(False, STILL, book, ("left", (SENT, EMPTY, OLD)))
        self.shows(False, STILL, book, ("left", (SENT, NOTE)))
        self.shows(False, STILL, book, ("left", (SENT, NOTE, OLD, OLD)))
        self.shows(False, STILL, book, ("left", [SENT, NOTE, OLD]))
        self.shows(False, STILL, book, ("left", (SENT, NOTE, list(OLD))))
        self.shows(False, STILL, book, ("left", (SENT, NOTE, ((True,), ()))))
        self.shows(False, STILL, book, ("left", ()))

    def test_each_run_that_leaves_something(self):
        for habits, book in ((STILL, GONE[:3]), (SAYING, TOLD[:2]), (pair(), (sends("ann"), sends("ann"), QUIET))):
            for run in plain_runs(habits, book):
                self.shows(run[-1] != bare(habits), habits, book, ("left", run))
                self.shows(False, habits, book, ("clear", run))

    def test_clear(self):
        self.shows(True, STILL, GONE, ("clear", GONE_LOTS))
        self.shows(True, STILL, (QUIET,), ("clear", (BARE,)))
        self.shows(False, STILL, (sends("ann"),), ("clear", (BARE,)))
        self.shows(False, STILL, (sends("ann"),), ("clear", ((SENT,),)))

    def test_texts(self):
        run = (SENT, NOTE, OLD)
        for word in ("clear", "Left", "lef", "", None, "late", 0, STILL, ("left",)):
            self.shows(False, STILL, GONE[:3], (word, run))
        for word in ("left", "Clear", "", None, "clearer", True, ["clear"]):
            self.shows(False, STILL, GONE, (word, GONE_LOTS))
        for thing in (["left", run], ("left",), ("left", run, ()), (run, "left"), run, "left", ("left", ("left", run))):
            self.shows(False, STILL, GONE[:3], thing)
        for thing in (["clear", GONE_LOTS], ("clear",), ("clear", GONE_LOTS, ()), GONE_LOTS, ("clear",) + GONE_LOTS):
            self.shows(False, STILL, GONE, thing)

    def test_a_stand_left_out(self):
        for at, lot in ((0, ()), (0, BARE), (1, BARE), (1, (NOTE,)), (2, BARE), (2, (OLD,)), (2, (NOTE,)), (3, ())):
            self.shows(False, STILL, GONE, ("clear", put(GONE_LOTS, at, lot)))

    def test_more_stands_than_must_be(self):
        self.shows(True, STILL, GONE, ("clear", put(GONE_LOTS, 0, (EMPTY, SENT))))
        self.shows(True, STILL, GONE, ("clear", put(GONE_LOTS, 1, (EMPTY, NOTE, OLD))))
        self.shows(True, STILL, GONE, ("clear", put(GONE_LOTS, 2, (EMPTY, ((-1,), (ask(0),)), OLD))))
        # What comes of the stands that needn't be there must be in the next lot.
        self.shows(False, STILL, GONE, ("clear", put(GONE_LOTS, 1, (EMPTY, SENT, NOTE))))
        self.shows(False, STILL, GONE, ("clear", put(GONE_LOTS, 2, (EMPTY, NOTE, OLD))))
        self.shows(False, STILL, GONE, ("clear", put(GONE_LOTS, 3, (EMPTY, NOTE))))
        longer = GONE + (QUIET,)
        lots = ((SENT,), (EMPTY, SENT, NOTE), (EMPTY, NOTE, OLD), (EMPTY, OLD), BARE)
        self.shows(True, STILL, longer, ("clear", lots))
        self.shows(False, STILL, longer, ("clear", put(lots, 3, BARE)))
        self.shows(False, STILL, longer, ("clear", put(lots, 2, GONE_LOTS[2])))

    def test_one_lot_too_few_or_too_many(self):
        for lots in (GONE_LOTS[1:], GONE_LOTS[:3], GONE_LOTS + (BARE,), (BARE,) + GONE_LOTS, (), (BARE,), (BARE,) * 4):
            self.shows(False, STILL, GONE, ("clear", lots))

    def test_lots_that_are_none(self):
        for lots in (list(GONE_LOTS), put(GONE_LOTS, 3, list(BARE)), put(GONE_LOTS, 1, [EMPTY, NOTE]),
                     put(GONE_LOTS, 1, (NOTE, EMPTY)), put(GONE_LOTS, 1, (EMPTY, EMPTY, NOTE)),
                     put(GONE_LOTS, 1, (EMPTY, ((False,), ()))), put(GONE_LOTS, 2, (EMPTY, ((True,), ()))),
                     put(GONE_LOTS, 1, (EMPTY, ((-1,), (ask(0),) * 7), NOTE)), put(GONE_LOTS, 3, EMPTY)):
            self.shows(False, STILL, GONE, ("clear", lots))

    def test_any_thing(self):
        for thing in any_things() + [nested(9, ("left", (SENT,)))]:
            for book in (GONE, GONE[:3], (QUIET,)):
                self.shows(False, STILL, book, thing)
                self.shows(False, STILL, book, (thing, thing))
                self.shows(False, STILL, book, ("left", thing))
                self.shows(False, STILL, book, ("clear", thing))
                self.shows(False, STILL, book, ("left", (thing,) * len(book)))
                self.shows(False, STILL, book, ("clear", (thing,) * len(book)))
            for at in range(4):
                self.shows(False, STILL, GONE, ("clear", put(GONE_LOTS, at, thing)))
                self.shows(False, STILL, GONE, ("clear", put(GONE_LOTS, at, GONE_LOTS[at] + (thing,))))
            for at in range(3):
                self.shows(False, STILL, GONE[:3], ("left", put((SENT, NOTE, OLD), at, thing)))

    def test_of_another_book(self):
        self.shows(False, STILL, (QUIET,) * 4, ("clear", GONE_LOTS))
        self.shows(True, STILL, (QUIET,) * 4, ("clear", (BARE,) * 4))
        self.shows(False, STILL, (sends("ann"), sends("ann"), QUIET, QUIET), ("clear", GONE_LOTS))
        self.shows(False, SAYING, TOLD[:2] + (QUIET,), ("left", (SENT, ((-1,), (said(1, "burnt"),)), EMPTY)))

    def test_no_book_alone_is_refused(self):
        for thing in (("left", (SENT, NOTE)), ("clear", (BARE,)), None, ()):
            self.refused(NoBook, -1, shows, STILL, (), thing)
            self.refused(NoBook, 1, shows, STILL, (QUIET, hears(BURNT)), thing)
            self.refused(NoBook, 0, shows, STILL, (None,), thing)


class BooksThatAreRefused(Refused):
    def test_lots_of_a_book_without_a_run(self):
        self.refused(NoRun, 1, lot_of, SAYING, NOT_HEARD)
        self.assertIs(shows(SAYING, NOT_HEARD, ("clear", (BARE, BARE, BARE))), True)
        # Nothing comes of the bare stand so: any lot has all of that.
        self.assertIs(shows(SAYING, NOT_HEARD, ("clear", (BARE, (((-1,), (said(1, "none"),)),), BARE))), True)
        self.assertIs(shows(SAYING, NOT_HEARD, ("clear", (BARE, (NOTE,), BARE))), False)
        self.assertIs(shows(SAYING, NOT_HEARD, ("clear", (BARE, (EMPTY, NOTE), BARE))), False)
        self.assertIs(shows(SAYING, NOT_HEARD, ("clear", (BARE, (), BARE))), False)
        self.assertIs(shows(SAYING, NOT_HEARD, ("clear", ((NOTE,), BARE, BARE))), False)
        self.assertIs(shows(SAYING, NOT_HEARD, ("clear", (BARE, BARE))), False)
        self.assertIs(shows(SAYING, NOT_HEARD, ("clear", (BARE, BARE, (NOTE,)))), False)

    def test_lots_ahead_are_gone_on_from_though_no_run_comes_there(self):
        burnt = ((-1,), (said(1, "burnt"),))
        lots = ((EMPTY, burnt), BARE, BARE)
        self.assertIs(shows(SAYING, NOT_HEARD, ("clear", lots)), True)
        self.assertIs(shows(SAYING, NOT_HEARD, ("clear", put(lots, 1, (burnt,)))), False)
        self.assertIs(shows(SAYING, NOT_HEARD, ("clear", put(lots, 1, (EMPTY, burnt)))), True)
        self.assertIs(shows(SAYING, NOT_HEARD, ("clear", put(lots, 1, (EMPTY, NOTE)))), False)

    def test_runs_of_a_book_without_one(self):
        for run in ((EMPTY, EMPTY, EMPTY), (EMPTY, EMPTY, NOTE), (EMPTY, ((-1,), (said(1, "burnt"),)), NOTE)):
            self.assertIs(shows(SAYING, NOT_HEARD, ("left", run)), False)

    def test_runs_of_a_book_with_too_much_under_way(self):
        book = (ALL, ALL)
        self.refused(TooMany, 1, lot_of, LOSING, book)
        two = (ask(0), letter(0))
        first = ((-1, -1), two)
        more = ((-1, -1), tuple(sorted((ask(0, 1), letter(0, 1)) + two + (ask(2), letter(2)))))
        self.assertEqual(len(more[1]), 6)
        self.assertIs(shows(LOSING, book, ("left", (first, more))), True)
        self.assertIs(shows(LOSING, book, ("left", (first, ((-1, -1), (ask(0, 1), letter(0, 1)))))), True)
        self.assertIs(shows(LOSING, book, ("left", (bare(LOSING), bare(LOSING)))), False)
        self.assertIs(shows(LOSING, book, ("left", (first, bare(LOSING)))), False)
        four = ((-1, -1), two + (ask(2), letter(2)))
        seven = ((-1, -1), tuple(sorted(tuple(thing[:2] + (1,) + thing[3:] for thing in four[1]) + two + (ask(2),))))
        self.assertIn(seven, plain_next(LOSING, four, ALL))
        self.assertIs(shows(LOSING, book, ("left", (four, seven))), False)
        six = (seven[0], seven[1][1:])
        self.assertIs(shows(LOSING, book, ("left", (four, six))), six in plain_next(LOSING, four, ALL))

    def test_runs_of_a_book_with_too_many_stands(self):
        habits = several("ann", "bob", "cyd", kind="still", keep=3)
        habits = Habits(habits.folk, tuple(way(one[0], one[1], 1, 3, True, one[0] == "house") for one in habits.ways))
        texts = ("ann", "bob", "cyd")
        book = (day((), texts, texts), QUIET, QUIET)
        self.assertEqual(plain_lots(habits, book)[1:], ["TooMany"])
        self.refused(TooMany, 1, run_to, habits, book, bare(habits))
        start = ((-1,) * 3, tuple(sorted(one for at in (0, 2, 4) for one in (ask(at), letter(at)))))
        for second in sorted(plain_next(habits, start, QUIET))[::150]:
            for third in sorted(plain_next(habits, second, QUIET))[::150]:
                self.assertIs(shows(habits, book, ("left", (start, second, third))), third != bare(habits))
                self.assertIs(shows(habits, book, ("left", (start, third, second))), False)

    def test_lots_of_a_book_with_too_many_stands(self):
        # The lots that it would take are none, whatever comes behind them.
        book = (ALL, ALL) + (QUIET,) * 4
        self.refused(TooMany, 1, lot_of, LOSING, book)
        first = lot_of(LOSING, book[:1])
        second = tuple(sorted({stand for one in first for stand in plain_next(LOSING, one, book[1])}))
        self.assertGreater(max(len(stand[1]) for stand in second), 6)
        short = tuple(stand for stand in second if len(stand[1]) <= 6)
        self.assertTrue(is_lot(LOSING, short))
        lots = [short]
        for _ in range(4):
            lots.append(tuple(sorted({stand for one in lots[-1] for stand in plain_next(LOSING, one, QUIET)})))
        self.assertEqual(lots[-1], (bare(LOSING),))
        for told in (second, short):
            self.assertIs(shows(LOSING, book, ("clear", (first, told) + tuple(lots[1:]))), False)
        # Of the short stands alone, with nothing done on the second day, the same lots are a paper.
        self.assertIs(shows(LOSING, (ALL,) + (QUIET,) * 5, ("clear", (first, short) + tuple(lots[1:]))), True)


if __name__ == "__main__":
    unittest.main()
