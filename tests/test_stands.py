"""Point 7: things under way, stands, the bare stand."""

import unittest

from nameagain.days import bare, is_stand
from nameagain.habits import Habits
from samples import any_things, nested, number, one_folk, pair, put, triple, way

MIXED = Habits(
    (("ann", "saying", 2), ("bob", "still", None), ("cyd", "saying", 3)),
    (way("house", "ann", 2, 3, False, True), way("house", "bob", 1, 2), way("ann", "bob", 1, 3),
     way("bob", "cyd", 2, 2), way("ann", "house", 1, 2), way("bob", "house", 1, 3), way("cyd", "house")),
    steps=2)
TO_ANN, TO_BOB, ANN_BOB, BOB_CYD, ANN_HOME, BOB_HOME, CYD_HOME = range(7)
EMPTY = (-1, -1, -1)


def with_notes(*notes):
    return is_stand(MIXED, (notes, ()))


def with_under(*under, habits=MIXED):
    return is_stand(habits, ((-1,) * len(habits), under))


class Notes(unittest.TestCase):
    def test_bounds(self):
        for at, good, bad in ((0, (-1, 0, 1), (-2, 2, 3)), (1, (-1, 0), (-2, 1, 2)), (2, (-1, 0, 1, 2), (-2, 3, 4))):
            for note in good:
                self.assertIs(with_notes(*put(EMPTY, at, note)), True)
            for note in bad + (True, False, None, "", "0", (), [], (0,), 10 ** 79, -10 ** 79):
                self.assertIs(with_notes(*put(EMPTY, at, note)), False)

    def test_keep_of_one_day(self):
        habits = one_folk(keep=1)
        self.assertEqual([is_stand(habits, ((note,), ())) for note in (-1, 0, 1)], [True, True, False])

    def test_for_each_folk(self):
        self.assertIs(with_notes(-1, -1), False)
        self.assertIs(with_notes(-1, -1, -1, -1), False)
        self.assertIs(with_notes(), False)
        self.assertIs(with_notes(1, 0, 2), True)


class UnderWay(unittest.TestCase):
    def test_ways(self):
        self.assertIs(with_under((TO_ANN, "ask", 0, 0, False)), True)
        for thing in (-1, 7, 8, True, False, None, "0", "house", (0,), [], 10 ** 79):
            self.assertIs(with_under((thing, "ask", 0, 0, False)), False)
        self.assertIs(with_under((True, "ask", 0, 0, False)), False)
        self.assertIs(with_under((CYD_HOME, "none", 0, 0, False)), True)
        self.assertIs(with_under((CYD_HOME - 7, "none", 0, 0, False)), False)
        self.assertIs(with_under((TO_ANN - 7, "ask", 0, 0, False)), False)

    def test_words(self):
        words = {TO_ANN: ("ask", "letter"), TO_BOB: ("ask", "letter"), ANN_BOB: ("letter",), BOB_CYD: ("letter",),
                 ANN_HOME: ("burnt", "none"), BOB_HOME: (), CYD_HOME: ("burnt", "none")}
        for at, good in words.items():
            step = 1 if at in (ANN_BOB, BOB_CYD) else 0
            for word in ("ask", "letter", "burnt", "none", "", "Ask", "note", None, True, 0, ("ask",), ["letter"]):
                self.assertIs(with_under((at, word, 0, step, False)), word in good, (at, word))

    def test_days(self):
        for at, word, step, most in ((TO_ANN, "letter", 0, 3), (TO_BOB, "ask", 0, 2), (ANN_BOB, "letter", 1, 3),
                                     (BOB_CYD, "letter", 1, 2), (ANN_HOME, "none", 0, 2), (CYD_HOME, "burnt", 0, 1)):
            for days in range(-1, 5):
                self.assertIs(with_under((at, word, days, step, False)), 0 <= days < most, (at, days))
            for days in (True, False, None, "0", (), [0], 10 ** 79):
                self.assertIs(with_under((at, word, days, step, False)), False)

    def test_steps(self):
        for steps in (0, 1, 2):
            habits = triple(steps=steps)
            told, out, home = (number(habits, *ends) for ends in (("ann", "bob"), ("house", "ann"), ("ann", "house")))
            for step in (-1, 0, 1, 2, 3):
                self.assertIs(with_under((told, "letter", 0, step, False), habits=habits), 1 <= step <= steps)
                for at, word in ((out, "letter"), (out, "ask"), (home, "burnt"), (home, "none")):
                    self.assertIs(with_under((at, word, 0, step, False), habits=habits), step == 0)
            for step in (True, False, None, "1", (1,), []):
                self.assertIs(with_under((told, "letter", 0, step, False), habits=habits), False)
                self.assertIs(with_under((out, "ask", 0, step, False), habits=habits), False)

    def test_copies(self):
        for word in ("ask", "letter"):
            for days, copied in ((0, False), (1, False), (2, True)):
                self.assertIs(with_under((TO_ANN, word, days, 0, True)), copied)
                self.assertIs(with_under((TO_ANN, word, days, 0, False)), True)
        for at, word, days, step in ((TO_BOB, "ask", 1, 0), (ANN_BOB, "letter", 2, 1), (ANN_HOME, "none", 1, 0)):
            self.assertIs(with_under((at, word, days, step, False)), True)
            self.assertIs(with_under((at, word, days, step, True)), False)
        for thing in (0, 1, None, "", "False", (), [False]):
            self.assertIs(with_under((TO_ANN, "ask", 2, 0, thing)), False)

    def test_copies_below_the_most_days(self):
        habits = one_folk(out=way("house", "ann", 2, 2, False, True))
        for days in (0, 1, 2):
            self.assertIs(with_under((0, "ask", days, 0, True), habits=habits), False)

    def test_sorted(self):
        rows = ((0, "ask", 1, 0, False), (0, "ask", 2, 0, False), (0, "ask", 2, 0, True), (0, "letter", 0, 0, False),
                (1, "ask", 0, 0, False), (2, "letter", 0, 1, False), (4, "burnt", 0, 0, False))
        self.assertIs(with_under(*rows), True)
        for at in range(len(rows) - 1):
            swapped = put(put(rows, at, rows[at + 1]), at + 1, rows[at])
            self.assertIs(with_under(*swapped), False)
        self.assertIs(with_under(*rows[::-1]), False)

    def test_alike(self):
        for thing in ((0, "ask", 1, 0, False), (0, "letter", 2, 0, True), (4, "none", 1, 0, False)):
            self.assertIs(with_under(thing, thing), True)
            self.assertIs(with_under(*[thing] * 10), True)

    def test_one_letter_on_a_way_between_folk(self):
        for first, other in (((2, "letter", 0, 1, False), (2, "letter", 0, 1, False)),
                             ((2, "letter", 0, 1, False), (2, "letter", 0, 2, False)),
                             ((2, "letter", 0, 2, False), (2, "letter", 2, 1, False))):
            self.assertIs(with_under(first), True)
            self.assertIs(with_under(other), True)
            self.assertIs(with_under(first, other), False)
        self.assertIs(with_under((2, "letter", 0, 1, False), (3, "letter", 0, 1, False)), True)

    def test_many(self):
        self.assertIs(with_under(*[(0, "ask", 1, 0, False)] * 3000), True)


class AnyThing(unittest.TestCase):
    good = ((1, 0, -1), ((0, "ask", 2, 0, True), (2, "letter", 0, 2, False)))

    def test_good(self):
        self.assertIs(is_stand(MIXED, self.good), True)
        self.assertIs(is_stand(habits=MIXED, thing=self.good), True)

    def test_any_thing(self):
        for thing in any_things():
            self.assertIs(is_stand(MIXED, thing), False)
            self.assertIs(is_stand(MIXED, (thing, ())), False)
            self.assertIs(is_stand(MIXED, (thing, thing)), False)
            self.assertIs(is_stand(MIXED, (EMPTY, thing)), thing == () and isinstance(thing, tuple))
            self.assertIs(is_stand(MIXED, (EMPTY, (thing,))), False)
            self.assertIs(is_stand(MIXED, (EMPTY, self.good[1] + (thing,))), False)
            self.assertIs(is_stand(MIXED, (EMPTY, (thing,) + self.good[1])), False)
            self.assertIs(is_stand(MIXED, self.good + (thing,)), False)

    def test_pieces_put_otherwise(self):
        under = self.good[1]
        for thing in any_things() + [(0, "ask"), nested(10, self.good)]:
            for at in range(5):
                other = put(under[0], at, thing)
                alike = repr(other) == repr(under[0]) or at == 1 and thing == "letter" or at == 4 and thing is False
                if not alike:
                    self.assertIs(is_stand(MIXED, (EMPTY, put(under, 0, other))), False, other)

    def test_lists_for_tuples(self):
        notes, under = self.good
        for thing in ([notes, under], (list(notes), under), (notes, list(under)), (notes, tuple(map(list, under))),
                      (notes,), (notes, under, ()), (notes, (under[0][:4],)), (notes, (under[0] + (0,),)), (under, notes)):
            self.assertIs(is_stand(MIXED, thing), False)

    def test_truths_and_numbers(self):
        one = one_folk(keep=3, out=way("house", "ann", 1, 3, False, True))
        self.assertIs(is_stand(one, ((0,), ((0, "ask", 1, 0, True),))), True)
        for thing in (((False,), ()), ((True,), ()), ((0,), ((False, "ask", 1, 0, True),)),
                      ((0,), ((0, "ask", True, 0, True),)), ((0,), ((0, "ask", 1, False, True),)),
                      ((0,), ((0, "ask", 1, 0, 1),)), ((0,), ((0, "ask", 1, 0, 0),))):
            self.assertIs(is_stand(one, thing), False)

    def test_of_other_habits(self):
        self.assertIs(is_stand(pair(), bare(MIXED)), False)
        self.assertIs(is_stand(MIXED, bare(pair())), False)


class Bare(unittest.TestCase):
    def test_bare(self):
        self.assertEqual(bare(one_folk()), ((-1,), ()))
        self.assertEqual(bare(pair()), ((-1, -1), ()))
        self.assertEqual(bare(habits=MIXED), ((-1, -1, -1), ()))
        self.assertIs(is_stand(MIXED, bare(MIXED)), True)


if __name__ == "__main__":
    unittest.main()
