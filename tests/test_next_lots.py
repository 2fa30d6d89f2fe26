"""Point 12: the hearings of a lot, and the next lot."""

import unittest
from itertools import product

from cases import Refused
from nameagain.days import evenings, mornings
from nameagain.errors import NoDeeds, NoHeard, NoLot, NoRun, TooMany
from nameagain.habits import Habits
from nameagain.lots import hearings, is_lot, lot_of, next_lot
from plain import plain_mornings, plain_next
from samples import QUIET, any_things, ask, day, hears, letter, one_folk, pair, said, sends, several, wants, way

EMPTY, NOTE = ((-1,), ()), ((0,), ())
BURNT, NONE = ("ann", "burnt"), ("ann", "none")
SAYING = one_folk("saying", 2, home=way("ann", "house", 1, 2))
STILL = one_folk("still", out=way("house", "ann", 1, 2))
# cyd is still; to bob the house has no way.
MIXED = Habits(
    (("bob", "saying", 1), ("ann", "saying", None), ("cyd", "still", 2)),
    (way("house", "cyd"), way("house", "ann"), way("ann", "house"), way("bob", "house"), way("cyd", "house")))
BARE = (((-1, -1, -1), ()),)
NO_LOTS = [(), [EMPTY], (EMPTY, EMPTY), (NOTE, EMPTY), EMPTY, (((True,), ()),), (((-1,), (ask(0),) * 7),), None, 0]


def words(*rows):
    """A stand of SAYING without a note and with these words under way."""
    return ((-1,), tuple(sorted(said(1, word, days) for word, days in rows)))


class Hearings(Refused):
    def test_silent(self):
        self.assertEqual(hearings(STILL, (EMPTY,)), [()])
        self.assertEqual(hearings(STILL, (((-1,), (letter(0, 1),)), NOTE)), [()])
        self.assertEqual(hearings(habits=SAYING, lot=(NOTE,)), [()])

    def test_one_stand(self):
        self.assertEqual(hearings(SAYING, (words(("none", 1)),)), [(NONE,)])
        self.assertEqual(hearings(SAYING, (words(("none", 0)),)), [(), (NONE,)])
        self.assertEqual(hearings(SAYING, (words(("none", 1), ("burnt", 0)),)), [(BURNT, NONE), (NONE,)])
        self.assertEqual(hearings(SAYING, (words(("none", 0), ("none", 0)),)), [(), (NONE,), (NONE, NONE)])

    def test_several_stands(self):
        lot = (EMPTY, words(("burnt", 1)), words(("none", 0), ("none", 1)))
        self.assertTrue(is_lot(SAYING, lot))
        self.assertEqual(hearings(SAYING, lot), [(), (BURNT,), (NONE,), (NONE, NONE)])
        self.assertEqual(hearings(SAYING, lot[1:]), [(BURNT,), (NONE,), (NONE, NONE)])

    def test_all_that_mornings_tell(self):
        habits = several("ann", "bob", keep=2, ways=(way("ann", "bob", 1, 2, True),))
        for book in ((sends("ann", "bob"), wants("ann")), (sends("ann"), wants("bob"), QUIET)):
            lot = lot_of(habits, book)
            told = {heard for stand in lot for heard, _ in mornings(habits, stand)}
            self.assertGreater(len(told), 2)
            self.assertEqual(hearings(habits, lot), sorted(told))
            for heard in told:
                self.assertTrue(is_lot(habits, next_lot(habits, lot, heard)))

    def test_new_lists(self):
        lot = (words(("none", 0)),)
        told = hearings(SAYING, lot)
        self.assertIsInstance(told, list)
        told.append(None)
        told.reverse()
        self.assertEqual(hearings(SAYING, lot), [(), (NONE,)])
        self.assertIsNot(hearings(SAYING, lot), hearings(SAYING, lot))

    def test_no_lot(self):
        for thing in any_things() + NO_LOTS:
            self.refused(NoLot, None, hearings, SAYING, thing)

    def test_six_and_seven_under_way(self):
        six = ((1,), (said(1, "none"),) * 6)
        self.refused(TooMany, 0, hearings, SAYING, (six,))
        self.refused(TooMany, 0, hearings, SAYING, (EMPTY, six))
        self.assertEqual(len(hearings(SAYING, (((1,), (said(1, "none"),) * 5),))), 6)
        self.assertEqual(len(hearings(SAYING, (((-1,), (said(1, "none"),) * 6),))), 7)
        self.refused(NoLot, None, hearings, SAYING, (((1,), (said(1, "none"),) * 7),))

    def test_more_than_300_stands_are_no_matter(self):
        habits = several("ann", "bob", "cyd", kind="still", ways=tuple(
            way(*ends) for ends in (("ann", "bob"), ("ann", "cyd"), ("bob", "ann"), ("bob", "cyd"), ("cyd", "ann"),
                                    ("cyd", "bob"))))
        lot = lot_of(habits, (sends("ann", "bob", "cyd"),))
        self.assertEqual(len(plain_mornings(habits, lot[0])), 8 ** 3)
        self.assertEqual(hearings(habits, lot), [()])
        self.refused(TooMany, 0, next_lot, habits, lot)


class NextLot(Refused):
    def test_heard_and_deeds_left_out(self):
        lot = (EMPTY, words(("none", 0)))
        silent = (EMPTY, words(("none", 1)))
        for told in (next_lot(SAYING, lot), next_lot(SAYING, lot, ()), next_lot(SAYING, lot, heard=()),
                     next_lot(SAYING, lot, letters=()), next_lot(SAYING, lot, (), letters=(), asks=()),
                     next_lot(habits=SAYING, lot=lot)):
            self.assertEqual(told, silent)
            self.assertIsInstance(told, tuple)

    def test_by_names_alone(self):
        with self.assertRaises(TypeError):
            next_lot(SAYING, (EMPTY,), (), ("ann",))

    def test_heard(self):
        lot = (EMPTY, words(("burnt", 1)), words(("none", 0), ("none", 1)))
        self.assertEqual(next_lot(SAYING, lot), (EMPTY,))
        self.assertEqual(next_lot(SAYING, lot, (BURNT,)), (EMPTY,))
        self.assertEqual(next_lot(SAYING, lot, (NONE,)), (words(("none", 1)),))
        self.assertEqual(next_lot(SAYING, lot, (NONE, NONE)), (EMPTY,))

    def test_deeds(self):
        self.assertEqual(next_lot(STILL, (EMPTY,), letters=("ann",)), (((-1,), (letter(0),)),))
        self.assertEqual(next_lot(STILL, (EMPTY,), asks=("ann",)), (((-1,), (ask(0),)),))
        self.assertEqual(next_lot(STILL, (EMPTY, NOTE), letters=("ann",), asks=("ann",)),
                         (((-1,), (ask(0), letter(0))), ((0,), (ask(0), letter(0)))))
        losing = one_folk("still", out=way("house", "ann", 1, 1, True))
        self.assertEqual(next_lot(losing, (NOTE,), letters=("ann",)),
                         (EMPTY, ((-1,), (letter(0),)), NOTE, ((0,), (letter(0),))))

    def test_heard_and_then_done(self):
        self.assertEqual(next_lot(SAYING, (words(("none", 1)),), (NONE,), letters=("ann",)), (((-1,), (letter(0),)),))
        self.assertEqual(next_lot(SAYING, (words(("none", 1)), NOTE), (NONE,), asks=("ann",)), (((-1,), (ask(0),)),))

    def test_sorted_and_each_once(self):
        losing = one_folk("saying", 2, way("house", "ann", 1, 3, True, True), way("ann", "house", 1, 2, True))
        lot = lot_of(losing, (day((), ("ann",), ("ann",)), QUIET))
        for heard, letters in (((), ()), ((), ("ann",)), ((NONE,), ()), ((BURNT, NONE), ("ann",))):
            told = next_lot(losing, lot, heard, letters=letters)
            self.assertEqual(told, tuple(sorted(set(told))))
            coming = set()
            for stand in lot:
                for words_heard, morning in mornings(losing, stand):
                    if words_heard == heard:
                        coming.update(evenings(losing, morning, letters=letters))
            self.assertEqual(set(told), coming)

    def test_the_lot_alone_is_enough_to_go_on_from(self):
        books = ((SAYING, (sends("ann"), QUIET, wants("ann"), QUIET, day((BURNT,), ("ann",)), QUIET, QUIET)),
                 (pair(), (sends("ann"),) * 4 + (QUIET, sends("ann"))), (MIXED, (QUIET, sends("ann"), wants("ann"))))
        for habits, book in books:
            lot = lot_of(habits, book[:1])
            for at in range(1, len(book)):
                heard, letters, asks = book[at]
                lot = next_lot(habits, lot, heard, letters=letters, asks=asks)
                self.assertEqual(lot, lot_of(habits, book[:at + 1]))

    def test_other_books_of_the_same_lot(self):
        one, other = lot_of(STILL, (sends("ann"), QUIET, QUIET)), lot_of(STILL, (sends("ann"),) + (QUIET,) * 9)
        self.assertEqual(one, other)
        self.assertEqual(next_lot(STILL, one, letters=("ann",)), next_lot(STILL, other, letters=("ann",)))

    def test_lots_that_no_book_has(self):
        lot = (((-1,), (ask(0, 1), letter(0))), ((0,), (letter(0, 1),) * 4))
        told = set().union(*[plain_next(STILL, stand, QUIET) for stand in lot])
        self.assertEqual(next_lot(STILL, lot), tuple(sorted(told)))


class Refusals(Refused):
    def test_no_lot(self):
        for thing in any_things() + NO_LOTS:
            self.refused(NoLot, None, next_lot, STILL, thing)

    def test_no_heard(self):
        cases = [[], [NONE], (list(NONE),), (NONE, BURNT), (("bob", "none"), NONE), (("cyd", "burnt"),),
                 (("dan", "none"),), (("house", "none"),), (("ann", "letter"),), (("ann", "ask"),), (("ann",),), NONE,
                 (("ann", "none", 0),), ("ann",), "none", (NONE, ("cyd", "none")), (NONE, None), {}, 0]
        for thing in cases:
            self.refused(NoHeard, None, next_lot, MIXED, BARE, thing)
        for thing in any_things():
            if thing != () or isinstance(thing, list):
                self.refused(NoHeard, None, next_lot, MIXED, BARE, thing)
            self.refused(NoHeard, None, next_lot, MIXED, BARE, (thing,))
            self.refused(NoHeard, None, next_lot, MIXED, BARE, (NONE, thing))
            self.refused(NoHeard, None, next_lot, MIXED, BARE, (("ann", thing),))

    def test_heard_in_order_is_no_such_refusal(self):
        for heard in ((BURNT,), (BURNT, BURNT, NONE, ("bob", "burnt"), ("bob", "none")), (NONE,) * 100):
            self.refused(NoRun, 0, next_lot, MIXED, BARE, heard)

    def test_no_deeds(self):
        cases = [("bob",), ("cyd", "ann"), ("ann", "ann"), ["ann"], [], "ann", ("dan",), ("house",), None,
                 ("ann", "bob")]
        for thing in cases + [(one,) for one in any_things() if one != "ann"]:
            self.refused(NoDeeds, None, next_lot, MIXED, BARE, letters=thing)
            self.refused(NoDeeds, None, next_lot, MIXED, BARE, asks=thing)
            self.refused(NoDeeds, None, next_lot, MIXED, BARE, letters=("ann",), asks=thing)
            self.refused(NoDeeds, None, next_lot, MIXED, BARE, letters=thing, asks=("ann",))

    def test_no_run(self):
        self.refused(NoRun, 0, next_lot, SAYING, (EMPTY,), (NONE,))
        self.refused(NoRun, 0, next_lot, SAYING, (NOTE,), (BURNT,))
        self.refused(NoRun, 0, next_lot, SAYING, (words(("none", 1)),))
        self.refused(NoRun, 0, next_lot, SAYING, (words(("none", 0)), words(("none", 1))), (NONE, NONE))

    def test_six_and_seven_under_way(self):
        six = ((1,), (said(1, "none"),) * 6)
        self.refused(TooMany, 0, next_lot, SAYING, (six,))
        self.refused(TooMany, 0, next_lot, SAYING, (EMPTY, six))
        # Heard otherwise there would be seven, but that is no matter.
        self.assertEqual(next_lot(SAYING, (six,), (NONE,)), (((-1,), (said(1, "burnt"),) + (said(1, "none", 1),) * 5),))
        self.refused(TooMany, 0, next_lot, SAYING, (six,), (NONE,), letters=("ann",))
        self.assertEqual(len(next_lot(SAYING, (six,), (NONE, NONE), letters=("ann",))[0][1]), 6)
        self.refused(TooMany, 0, next_lot, SAYING, (six,), (NONE, NONE), letters=("ann",), asks=("ann",))

    def test_three_hundred_stands_and_one_more(self):
        # On ways of three days asks wait, so that of each stand comes one; of the last stand come two.
        habits = several("ann", "bob", "cyd", kind="still")
        habits = Habits(habits.folk, (way("house", "ann", 3, 3), way("house", "bob", 3, 3), way("house", "cyd", 2, 3))
                        + tuple(one for one in habits.ways if one[1] == "house"))
        young = [ask(at, days) for at in (0, 1) for days in (0, 1)]
        rows = {tuple(sorted(row)) for many in range(7) for row in product(young, repeat=many)}
        rows |= {tuple(sorted(row + (letter(0),))) for row in rows if len(row) < 6}
        waits = [((-1,) * 3, row) for row in sorted(rows) if row]
        last = ((-1,) * 3, (ask(2, 1),))
        lot = tuple(waits[:298] + [last])
        self.assertEqual((len(lot), len(next_lot(habits, lot))), (299, 300))
        lot = tuple(waits[:299] + [last])
        self.assertTrue(is_lot(habits, lot))
        self.assertEqual(len(set().union(*[plain_next(habits, stand, QUIET) for stand in lot])), 301)
        self.refused(TooMany, 0, next_lot, habits, lot)
        losing = Habits(habits.folk, habits.ways[:2] + (way("house", "cyd", 1, 1, True),) + habits.ways[3:])
        short = tuple(stand for stand in waits if len(stand[1]) < 6)
        self.assertEqual(len(next_lot(losing, short[:150], letters=("cyd",))), 300)
        self.refused(TooMany, 0, next_lot, losing, short[:151], letters=("cyd",))

    def test_which_is_due(self):
        bad = ("ann", "ann")
        six = (((1,), (said(1, "none", 0),) * 6),)
        self.refused(NoLot, None, next_lot, SAYING, (), None, letters=bad)
        self.refused(NoLot, None, next_lot, SAYING, None, (BURNT, BURNT), asks=None)
        self.refused(NoHeard, None, next_lot, SAYING, six, None, letters=bad)
        self.refused(NoHeard, None, next_lot, SAYING, six, (NONE, BURNT), asks=bad)
        self.refused(NoDeeds, None, next_lot, SAYING, six, (BURNT,), letters=bad)
        self.refused(NoDeeds, None, next_lot, SAYING, six, (), asks=bad)
        self.refused(NoRun, 0, next_lot, SAYING, six, (BURNT,), letters=("ann",), asks=("ann",))
        self.refused(TooMany, 0, next_lot, SAYING, six)


if __name__ == "__main__":
    unittest.main()
