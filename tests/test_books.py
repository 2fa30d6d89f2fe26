"""Point 9: books of what the house did and heard of a name."""

import unittest

from nameagain.errors import AgainError, NoBook
from nameagain.habits import Habits
from nameagain.runs import look_book
from samples import QUIET, any_things, day, hears, nested, put, sends, wants, way

# cyd is still; to bob the house has no way.
HABITS = Habits(
    (("bob", "saying", 1), ("ann", "saying", None), ("cyd", "still", 2)),
    (way("house", "cyd"), way("house", "ann"), way("ann", "house"), way("bob", "house"), way("cyd", "house")))
ANN, BOB = ("ann", "none"), ("bob", "burnt")


class Books(unittest.TestCase):
    def is_book(self, *days):
        self.assertIsNone(look_book(HABITS, days))

    def no_book(self, at, book):
        with self.assertRaises(NoBook) as caught:
            look_book(HABITS, book)
        self.assertEqual(caught.exception.at, at)
        self.assertNotIsInstance(caught.exception.at, bool)
        self.assertIsInstance(caught.exception, AgainError)


class Good(Books):
    def test_one_day(self):
        self.is_book(QUIET)
        self.is_book(sends("ann"))
        self.is_book(wants("cyd"))
        self.is_book(day((), ("ann", "cyd"), ("ann", "cyd")))

    def test_several_days(self):
        self.is_book(sends("ann"), hears(ANN, ANN, BOB), day((BOB,), ("cyd",), ("ann",)), QUIET)
        self.is_book(QUIET, hears(("ann", "burnt"), ("ann", "none"), ("bob", "burnt"), ("bob", "none")))
        self.is_book(QUIET, hears(*[ANN] * 500))

    def test_thirty_days_at_most(self):
        self.is_book(*[QUIET] * 29)
        self.is_book(*[QUIET] * 30)
        self.no_book(-1, (QUIET,) * 31)
        self.no_book(-1, (QUIET,) * 20000)

    def test_what_is_heard_needs_no_run(self):
        self.is_book(QUIET, hears(BOB))

    def test_by_names(self):
        self.assertIsNone(look_book(habits=HABITS, book=(QUIET,)))


class NoTuple(Books):
    def test_none(self):
        self.no_book(-1, ())

    def test_no_tuple(self):
        for thing in ([], [QUIET], None, True, 0, "", "ann", HABITS, {}, {QUIET: 1}):
            self.no_book(-1, thing)

    def test_any_thing(self):
        for thing in any_things():
            few = isinstance(thing, tuple) and 1 <= len(thing) <= 30
            self.no_book(0 if few else -1, thing)
            self.no_book(0, (thing,))
            self.no_book(1, (QUIET, thing, QUIET))
            self.no_book(2, (QUIET, QUIET, thing, thing))
        self.no_book(0, nested(9, (QUIET,)))


class BadDays(Books):
    def bad(self, thing):
        """The thing is none as a day of any number."""
        self.no_book(0, (thing,))
        self.no_book(1, (QUIET, thing))
        self.no_book(29, (QUIET,) * 29 + (thing,))
        self.no_book(1, (QUIET, thing, thing, None))

    def bad_heard(self, thing):
        self.bad((thing, (), ()))

    def test_first_of_several(self):
        self.no_book(1, (QUIET, None, QUIET, ()))
        self.no_book(0, (None, QUIET, None))
        self.no_book(0, (None,) * 30)
        self.no_book(-1, (None,) * 31)

    def test_no_tuple_of_three(self):
        for thing in ((), ((),), ((), ()), ((), (), (), ()), [(), (), ()], "", "abc", None, 3, HABITS):
            self.bad(thing)

    def test_lists_for_tuples(self):
        for at in range(3):
            self.bad(put(QUIET, at, []))
        self.bad(((), ["ann"], ()))
        self.bad(((), (), ["ann"]))
        self.bad_heard([ANN])
        self.bad_heard((list(ANN),))
        self.bad_heard((ANN, list(ANN)))

    def test_pieces_put_otherwise(self):
        for thing in any_things():
            for at in range(3):
                if not (isinstance(thing, tuple) and thing == ()):
                    self.bad(put(QUIET, at, thing))
            self.bad_heard((thing,))
            self.bad_heard((ANN, thing))
            self.bad_heard((("ann", thing),))
            if thing != "ann":
                self.bad_heard(((thing, "none"),))
                self.bad(((), (thing,), ()))
                self.bad(((), (), (thing,)))

    def test_heard_on_the_first_day(self):
        for heard in ((ANN,), (BOB,), (ANN, BOB)):
            self.no_book(0, (hears(*heard),))
            self.no_book(0, (day(heard, ("ann",)), QUIET, hears(BOB, ANN)))
            self.is_book(QUIET, hears(*heard))

    def test_heard_of_still_folk(self):
        self.bad_heard((("cyd", "burnt"),))
        self.bad_heard((ANN, ("cyd", "none")))

    def test_heard_of_no_folk(self):
        for text in ("dan", "house", "", "an", "Ann", "saying"):
            self.bad_heard(((text, "none"),))

    def test_no_words(self):
        for word in ("letter", "ask", "", "Burnt", "no", "burnt "):
            self.bad_heard((("ann", word),))

    def test_words_of_another_length(self):
        for word in ((), ("ann",), ("ann", "none", "none"), ("ann", "none", 0), "ann", ("none", "ann")):
            self.bad_heard((word,))

    def test_heard_unsorted(self):
        self.bad_heard((BOB, ANN))
        self.bad_heard((("ann", "none"), ("ann", "burnt")))
        self.bad_heard((ANN, BOB, ANN))

    def test_letters_and_asks(self):
        for texts in (("bob",), ("ann", "bob"), ("dan",), ("house",), ("",), ("cyd", "ann"), ("ann", "ann"), "ann",
                      None, ("ann", "cyd", "cyd"), 0):
            self.bad(((), texts, ()))
            self.bad(((), (), texts))
            self.bad(((), texts, texts))
            self.bad(((), texts, ("ann",)))
            self.bad(((), ("ann",), texts))

    def test_of_other_habits(self):
        book = (sends("ann"), hears(ANN), hears(BOB))
        self.is_book(*book)
        other = Habits((("ann", "still", 1), ("bob", "saying", 1)),
                       (way("house", "ann"), way("ann", "house"), way("bob", "house")))
        with self.assertRaises(NoBook) as caught:
            look_book(other, book)
        self.assertEqual(caught.exception.at, 1)


if __name__ == "__main__":
    unittest.main()
