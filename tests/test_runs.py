"""Point 10: where a thing fails to be a run of a book, how many runs there are, and a run to a stand."""

import unittest

from cases import Refused
from nameagain.days import bare, is_stand
from nameagain.errors import NoBook, NoRun, NoStand, TooMany
from nameagain.habits import Habits
from nameagain.lots import lot_of
from nameagain.runs import fails, how_many, run_to
from plain import plain_lots, plain_next, plain_runs
from samples import QUIET, any_things, ask, day, hears, letter, one_folk, pair, put, said, sends, several, wants, way

EMPTY = ((-1,), ())
NOTE = ((0,), ())
# ann is still and keeps a note as long as she likes; a letter takes a day or two.
STILL = one_folk("still", out=way("house", "ann", 1, 2))
SENT, LATER = ((-1,), (letter(0),)), ((-1,), (letter(0, 1),))
# ann says what she does; a word takes a day.
SAYING = one_folk("saying", 2)
BURNT = ("ann", "burnt")
TOLD = (sends("ann"), QUIET, hears(BURNT))
TOLD_RUN = (SENT, ((-1,), (said(1, "burnt"),)), EMPTY)
# Of ways of three days what is sent on three days is under way at once.
SLOW = Habits(pair().folk, (way("house", "ann", 3, 3), way("house", "bob", 3, 3)) + pair().ways[2:])
CROWDED = (day((), ("ann", "bob"), ("ann",)), sends("ann", "bob"), wants("ann", "bob"))
# Nothing was sent, so nothing is heard.
NOT_HEARD = (QUIET, hears(BURNT), hears(BURNT))


class Fails(Refused):
    def fails(self, at, habits, book, run):
        told = fails(habits, book, run)
        self.assertEqual(told, at)
        self.assertNotIsInstance(told, bool)

    def test_nowhere(self):
        self.assertIsNone(fails(STILL, (sends("ann"),), (SENT,)))
        self.assertIsNone(fails(SAYING, TOLD, TOLD_RUN))
        self.assertIsNone(fails(habits=STILL, book=(QUIET,) * 30, run=(EMPTY,) * 30))
        for behind in ((SENT, LATER, NOTE), (SENT, LATER, EMPTY), (SENT, NOTE, NOTE), (SENT, NOTE, EMPTY),
                       (SENT, EMPTY, EMPTY)):
            self.assertIsNone(fails(STILL, (sends("ann"), QUIET, QUIET), behind))

    def test_no_tuple_of_as_many(self):
        for run in (TOLD_RUN[:2], TOLD_RUN + (EMPTY,), (), TOLD_RUN * 2, list(TOLD_RUN), None, True, 3, "run", STILL):
            self.fails(-1, SAYING, TOLD, run)
        self.fails(-1, STILL, (QUIET,), ())
        self.fails(-1, STILL, (QUIET,), (EMPTY, EMPTY))
        self.fails(-1, STILL, (QUIET,), EMPTY)

    def test_the_first_day_fails(self):
        for stand in (EMPTY, NOTE, LATER, ((-1,), (ask(0),)), ((-1,), (letter(0), letter(0)))):
            self.fails(0, STILL, (sends("ann"), QUIET), (stand, EMPTY))
        self.fails(0, STILL, (QUIET, QUIET), (SENT, EMPTY))

    def test_a_later_day_fails(self):
        book = (sends("ann"), QUIET, QUIET, QUIET)
        run = (SENT, LATER, NOTE, NOTE)
        self.assertIsNone(fails(STILL, book, run))
        for at, stand in ((1, SENT), (1, ((-1,), (letter(0, 1), letter(0, 1)))), (2, LATER), (2, SENT), (3, SENT)):
            self.fails(at, STILL, book, put(run, at, stand))
        self.fails(2, STILL, book, put(run, 1, EMPTY))
        self.fails(3, STILL, book, put(run, 2, EMPTY))

    def test_what_was_heard_counts(self):
        self.fails(1, SAYING, TOLD, put(TOLD_RUN, 1, EMPTY))
        self.fails(1, SAYING, TOLD, put(TOLD_RUN, 1, ((-1,), (said(1, "none"),))))
        # The note is burnt on the next day alone, so its word can't have come by then.
        self.fails(2, SAYING, TOLD, (SENT, NOTE, EMPTY))
        self.fails(2, SAYING, TOLD, (SENT, NOTE, ((-1,), (said(1, "burnt"),))))

    def test_what_was_done_counts(self):
        book = (QUIET, sends("ann"), wants("ann"))
        self.assertIsNone(fails(STILL, book, (EMPTY, SENT, ((0,), (ask(0),)))))
        self.fails(1, STILL, book, (EMPTY, EMPTY, ((-1,), (ask(0),))))
        self.fails(2, STILL, book, (EMPTY, SENT, NOTE))
        self.fails(2, STILL, book, (EMPTY, SENT, ((0,), (letter(0),))))
        losing = one_folk("still", out=way("house", "ann", 1, 1, True))
        self.assertIsNone(fails(losing, book, (EMPTY, SENT, NOTE)))
        self.assertIsNone(fails(losing, book, (EMPTY, EMPTY, EMPTY)))
        self.fails(2, losing, book, (EMPTY, EMPTY, NOTE))

    def test_the_first_of_several(self):
        book = (sends("ann"), QUIET, QUIET, QUIET)
        self.fails(1, STILL, book, (SENT, None, EMPTY, "bad"))
        self.fails(1, STILL, book, (SENT, SENT, None, None))
        self.fails(2, STILL, book, (SENT, EMPTY, NOTE, None))
        self.fails(-1, STILL, book, (None, None, None))

    def test_what_is_no_stand(self):
        book = (sends("ann"), QUIET, QUIET)
        for at in range(3):
            for thing in any_things() + [list(NOTE), ((0,), []), ([0], ()), ((False,), ()), ((1,), ()), ((0, 0), ())]:
                self.fails(at, STILL, book, put((SENT, NOTE, NOTE), at, thing))

    def test_truths_are_no_numbers(self):
        book = (sends("ann"), QUIET)
        self.fails(0, STILL, book, (((-1,), ((False, "letter", 0, 0, False),)), EMPTY))
        self.fails(0, STILL, book, (((-1,), ((0, "letter", 0, 0, 0),)), EMPTY))
        self.fails(1, STILL, book, (SENT, ((-1,), ((0, "letter", True, 0, False),))))

    def test_any_thing(self):
        for thing in any_things():
            alone = isinstance(thing, tuple) and len(thing) == 1
            self.fails(0 if alone else -1, STILL, (QUIET,), thing)

    def test_more_than_six_things_under_way(self):
        slow = one_folk("still", out=way("house", "ann", 3, 3))
        book = (QUIET, QUIET)
        many = ((-1,), (ask(0, 1),) * 7)
        self.assertTrue(is_stand(slow, many))
        self.fails(0, slow, book, (many, EMPTY))
        self.fails(1, slow, book, (EMPTY, many))

    def test_refused_where_the_lot_is(self):
        for run in ((), (EMPTY, EMPTY, EMPTY), None):
            self.refused(NoRun, 1, fails, SAYING, NOT_HEARD, run)
            self.refused(TooMany, 2, fails, SLOW, CROWDED, run)
            self.refused(NoBook, 1, fails, STILL, (QUIET, None), run)


class HowMany(Refused):
    def test_by_hand(self):
        # Behind the letter it's later, kept or burnt; what's later is kept or burnt, and what's kept, too.
        book = (sends("ann"), QUIET, QUIET, QUIET)
        for days, many in ((1, 1), (2, 3), (3, 5), (4, 7)):
            self.assertEqual(how_many(STILL, book[:days]), many)
        self.assertEqual(how_many(habits=STILL, book=(QUIET,) * 30), 1)

    def test_each_letter_of_a_losing_way(self):
        losing = one_folk("still", out=way("house", "ann", 1, 1, True))
        self.assertEqual(how_many(losing, (sends("ann"),)), 2)
        self.assertEqual(how_many(losing, (sends("ann"), QUIET)), 3)
        self.assertEqual(how_many(losing, (day((), ("ann",), ("ann",)), QUIET)), 6)
        self.assertEqual(how_many(losing, (day((), ("ann",), ("ann",)),)), 4)

    def test_words(self):
        self.assertEqual(how_many(SAYING, TOLD), 1)
        # A note burnt on the day on which it came would be heard of on the next one.
        self.assertEqual(how_many(SAYING, (sends("ann"), QUIET, QUIET)), 2)
        self.assertEqual(how_many(SAYING, (sends("ann"), QUIET, QUIET, hears(BURNT))), 1)

    def test_three_folk(self):
        # Each of them burns the note in one of 29 nights, or in none.
        habits = several("ann", "bob", "cyd", kind="still", keep=None)
        book = (sends("ann", "bob", "cyd"),) + (QUIET,) * 29
        self.assertEqual(how_many(habits, book), 30 ** 3)

    def test_so_many_that_none_goes_through_them(self):
        losing = one_folk("still", out=way("house", "ann", 1, 1, True))
        both = day((), ("ann",), ("ann",))
        many = {stand: 1 for (stand,) in plain_runs(losing, (both,))}
        for _ in range(29):
            behind = {}
            for stand in many:
                for evening in plain_next(losing, stand, both):
                    behind[evening] = behind.get(evening, 0) + many[stand]
            many = behind
        self.assertGreater(sum(many.values()), 10 ** 20)
        self.assertEqual(how_many(losing, (both,) * 30), sum(many.values()))

    def test_against_all_runs(self):
        for habits, book in ((STILL, (sends("ann"), sends("ann"), wants("ann"), QUIET)),
                             (SAYING, (sends("ann"), wants("ann"), QUIET, hears(BURNT), QUIET)),
                             (pair(), (sends("ann"), sends("ann"), QUIET, QUIET)),
                             (several("ann", "bob", keep=2), (sends("ann", "bob"), QUIET, hears(("bob", "burnt"))))):
            runs = plain_runs(habits, book)
            self.assertEqual(len(runs), len(set(runs)))
            self.assertEqual(how_many(habits, book), len(runs))
            for run in runs:
                self.assertIsNone(fails(habits, book, run))

    def test_refused(self):
        self.refused(NoRun, 1, how_many, SAYING, NOT_HEARD)
        self.refused(TooMany, 2, how_many, SLOW, CROWDED)
        self.refused(NoBook, 1, how_many, STILL, (QUIET, None))
        for thing in any_things():
            self.refused(NoBook, None, how_many, STILL, thing)


class RunTo(Refused):
    def test_each_stand_of_the_lot(self):
        for habits, book in ((STILL, (sends("ann"), QUIET, sends("ann"))), (SAYING, TOLD),
                             (pair(), (sends("ann"),) * 4), (STILL, (QUIET,)), (STILL, (QUIET,) * 30)):
            ends = {run[-1] for run in plain_runs(habits, book)}
            self.assertEqual(set(lot_of(habits, book)), ends)
            for stand in ends:
                run = run_to(habits, book, stand)
                self.assertIsInstance(run, tuple)
                self.assertEqual(run[-1], stand)
                self.assertIsNone(fails(habits, book, run))

    def test_the_only_run(self):
        self.assertEqual(run_to(SAYING, TOLD, EMPTY), TOLD_RUN)
        self.assertEqual(run_to(habits=STILL, book=(sends("ann"), QUIET), stand=LATER), (SENT, LATER))

    def test_none_to_another_stand(self):
        for stand in (NOTE, SENT, LATER, ((-1,), (letter(0),) * 7), ((-1,), (ask(0),) * 3000)):
            self.assertTrue(is_stand(STILL, stand))
            self.assertIsNone(run_to(STILL, (QUIET, QUIET), stand))
        self.assertIsNone(run_to(STILL, (sends("ann"), QUIET, QUIET), LATER))
        self.assertIsNone(run_to(SAYING, TOLD, NOTE))

    def test_no_stand(self):
        for thing in any_things() + [list(EMPTY), ((False,), ()), ((1,), ()), ((-1, -1), ())]:
            self.refused(NoStand, None, run_to, STILL, (QUIET,), thing)

    def test_which_is_due(self):
        self.refused(NoBook, 0, run_to, STILL, (None,), None)
        self.refused(NoBook, -1, run_to, STILL, (), NOTE)
        self.refused(NoStand, None, run_to, SAYING, NOT_HEARD, None)
        self.refused(NoStand, None, run_to, SLOW, CROWDED, EMPTY)
        self.refused(NoRun, 1, run_to, SAYING, NOT_HEARD, EMPTY)
        self.refused(TooMany, 2, run_to, SLOW, CROWDED, bare(SLOW))

    def test_the_samples(self):
        self.assertEqual(plain_lots(SAYING, NOT_HEARD)[1:], ["NoRun"])
        self.assertEqual(plain_lots(SLOW, CROWDED)[2:], ["TooMany"])


if __name__ == "__main__":
    unittest.main()
