"""Points 2 and 4 to 6: folk, ways and habits."""

import unittest

from nameagain.errors import NoHabits
from nameagain.habits import Habits
from samples import any_things, one_folk, pair, put, triple, way

ANN = ("ann", "saying", 2)
BOB = ("bob", "still", None)
CYD = ("cyd", "saying", 1)
OUT = way("house", "ann", 1, 2, True, True)
HOME = way("ann", "house", 2, 3, False, False)
BOB_HOME = way("bob", "house")


class Refusals(unittest.TestCase):
    def refused(self, where, folk, ways, **steps):
        with self.assertRaises(NoHabits) as caught:
            Habits(folk, ways, **steps)
        self.assertEqual(caught.exception.where, where, (folk, ways, steps))


class Folk(Refusals):
    def taken(self, *folk):
        ways = tuple(way(text, "house") for text, _, _ in folk)
        self.assertEqual(Habits(folk, ways).folk, folk)

    def not_taken(self, folk):
        texts = [one[0] for one in folk if isinstance(one, (list, tuple)) and one]
        self.refused("folk", folk, tuple(way(text, "house") for text in texts))

    def test_texts(self):
        for text in ("a", "z", "az", "abcdefgh", "zzzzzzzz", "houses", "hous", "home", "esuoh", "none", "burnt"):
            self.taken((text, "saying", 1))
        for text in ("", "abcdefghi", "house", "Ann", "ANN", "an1", "a b", "ann ", " ann", "ann\n", "a-b", "a_b",
                     "\u00e4nn", "\u0430nn", "a" * 2000, "aab\x00", "~", None, True, 1, ("a",), ["a", "b"]):
            self.not_taken(((text, "saying", 1),))

    def test_kinds(self):
        self.taken(("ann", "saying", 1))
        self.taken(("ann", "still", 1))
        for kind in ("", "Saying", "say", "silent", "still ", None, True, 0, ("still",), ["saying"]):
            self.not_taken((("ann", kind, 1),))

    def test_keeps(self):
        for keep in (1, 2, 3, None):
            self.taken(("ann", "still", keep))
        for keep in (0, 4, -1, 10 ** 79, True, False, "1", "", (), [1], (2,)):
            self.not_taken((("ann", "still", keep),))

    def test_how_many(self):
        self.taken(ANN)
        self.taken(ANN, BOB)
        self.taken(BOB, ANN, CYD)
        self.not_taken(())
        self.not_taken((ANN, BOB, CYD, ("dan", "still", 1)))

    def test_called_unlike(self):
        self.not_taken((ANN, ANN))
        self.not_taken((ANN, ("ann", "still", None)))
        self.not_taken((ANN, BOB, ("bob", "saying", 3)))
        self.taken(("a", "still", 1), ("aa", "still", 1), ("aaa", "still", 1))

    def test_tuples_alone(self):
        for folk in ([ANN], (list(ANN),), (ANN, list(BOB)), ANN, (ANN[:2],), (ANN + (1,),), ((),), (ANN, ()), ("ann",)):
            self.refused("folk", folk, (HOME, BOB_HOME))

    def test_any_thing(self):
        for thing in any_things():
            self.refused("folk", thing, (HOME,))
            self.refused("folk", (thing,), (HOME,))
            self.refused("folk", (ANN, thing), (HOME, BOB_HOME))
            if thing != "saying":
                self.refused("folk", (("ann", thing, 1),), (HOME,))
            if thing not in ("a", "ann", "saying"):
                self.refused("folk", ((thing, "still", 1),), (HOME,))


class Ways(Refusals):
    def taken(self, *ways, folk=(ANN, BOB)):
        self.assertEqual(Habits(folk, ways).ways, ways)

    def not_taken(self, *ways, folk=(ANN, BOB)):
        self.refused("ways", folk, ways)

    def with_out(self, one):
        """Ways, of which one is this."""
        return HOME, one, BOB_HOME

    def test_ends(self):
        for ends in (("house", "ann"), ("house", "bob"), ("ann", "bob"), ("bob", "ann")):
            self.taken(*self.with_out(way(*ends)))
        for ends in (("house", "house"), ("ann", "ann"), ("bob", "bob"), ("house", "cyd"), ("cyd", "house"),
                     ("ann", "cyd"), ("cyd", "ann"), ("", "ann"), ("ann", ""), ("House", "ann"), (None, "ann"),
                     ("house", None), (1, "ann"), ("house", True), (["house"], "ann"), ("house", ("ann",))):
            self.not_taken(*self.with_out(way(*ends)))

    def test_days(self):
        for least, most in ((1, 1), (1, 2), (1, 3), (2, 2), (2, 3), (3, 3)):
            self.taken(*self.with_out(way("house", "bob", least, most)))
        for least, most in ((0, 1), (0, 0), (-1, 2), (1, 4), (4, 4), (3, 4), (2, 1), (3, 1), (3, 2), (True, 1),
                            (1, True), (True, True), (False, 1), (None, 1), (1, None), ("1", 2), (1, "2"), ((), 1),
                            (1, [2]), (10 ** 79, 10 ** 79), (1, 10 ** 79), (-10 ** 79, 3)):
            self.not_taken(*self.with_out(way("house", "bob", least, most)))

    def test_truths(self):
        for loses in (True, False):
            self.taken(*self.with_out(way("ann", "bob", loses=loses)))
            self.taken(*self.with_out(way("house", "bob", loses=loses, twice=True)))
        for thing in (0, 1, None, "", "True", (), [], (True,)):
            self.not_taken(*self.with_out(way("house", "bob", loses=thing)))
            self.not_taken(*self.with_out(way("house", "bob", twice=thing)))

    def test_twice_from_the_house_alone(self):
        self.taken(*self.with_out(way("house", "bob", twice=True)))
        self.not_taken(*self.with_out(way("bob", "ann", twice=True)))
        self.not_taken(HOME, way("bob", "house", twice=True))

    def test_no_two_alike(self):
        self.not_taken(HOME, BOB_HOME, HOME)
        self.not_taken(HOME, BOB_HOME, OUT, OUT)
        self.not_taken(HOME, BOB_HOME, way("ann", "bob", 1, 2), way("ann", "bob", 2, 3, True))
        self.not_taken(*[way("house", "ann")] * 19000)
        self.taken(HOME, BOB_HOME, way("ann", "bob"), way("bob", "ann"))

    def test_each_folk_has_one_to_the_house(self):
        self.taken(BOB_HOME, HOME)
        self.not_taken()
        self.not_taken(HOME)
        self.not_taken(BOB_HOME, way("house", "ann"), way("ann", "bob"))
        self.not_taken(HOME, BOB_HOME, folk=(ANN, BOB, CYD))

    def test_all_twelve(self):
        self.assertEqual(len(triple().ways), 12)

    def test_tuples_alone(self):
        self.refused("ways", (ANN,), [HOME])
        self.not_taken(list(HOME), BOB_HOME)
        self.not_taken(HOME, BOB_HOME, OUT[:5])
        self.not_taken(HOME, BOB_HOME, OUT + (False,))
        self.not_taken(HOME, BOB_HOME, ())
        self.refused("ways", (ANN,), HOME)

    def test_any_thing(self):
        for thing in any_things():
            self.refused("ways", (ANN,), thing)
            self.not_taken(HOME, BOB_HOME, thing)
            for at in (0, 1):
                if thing not in ("house", "ann"):
                    self.not_taken(HOME, BOB_HOME, put(OUT, at, thing))
            for at, good in ((2, (1, 2)), (3, (1, 2, 3)), (4, (True, False)), (5, (True, False))):
                if not any(thing is one for one in good):
                    self.not_taken(HOME, BOB_HOME, put(OUT, at, thing))


class Made(Refusals):
    def test_steps(self):
        for steps in (0, 1, 2):
            self.assertEqual(Habits((ANN,), (HOME,), steps=steps).steps, steps)
        for steps in (-1, 3, True, False, None, "1", (), [], 10 ** 79):
            self.refused("steps", (ANN,), (HOME,), steps=steps)
        for thing in any_things():
            if not any(thing is one for one in (0, 1, 2)):
                self.refused("steps", (ANN,), (HOME,), steps=thing)

    def test_steps_left_out(self):
        self.assertEqual(Habits((ANN,), (HOME,)).steps, 1)
        self.assertEqual(Habits((ANN,), (HOME,)), Habits((ANN,), (HOME,), steps=1))

    def test_names_and_places(self):
        told = Habits(folk=(ANN,), ways=(HOME,), steps=2)
        self.assertEqual((told.folk, told.ways, told.steps), ((ANN,), (HOME,), 2))
        self.assertEqual(Habits((ANN,), ways=(HOME,), steps=2), told)
        with self.assertRaises(TypeError):
            Habits((ANN,), (HOME,), 2)

    def test_the_first_refusal(self):
        self.refused("folk", (), (), steps=3)
        self.refused("folk", (), (HOME,), steps=3)
        self.refused("folk", None, [], steps=1)
        self.refused("ways", (ANN,), (), steps=3)
        self.refused("ways", (ANN,), None, steps=True)
        self.refused("steps", (ANN,), (HOME,), steps=3)

    def test_equal(self):
        self.assertTrue(pair() == pair())
        self.assertFalse(pair() != pair())
        habits = Habits((ANN, BOB), (HOME, OUT, BOB_HOME), steps=0)
        same = Habits((("ann", "saying", 2), ("bob", "still", None)), (HOME, OUT, BOB_HOME), steps=0)
        self.assertTrue(habits == same)

    def test_unlike(self):
        habits = Habits((ANN, BOB), (HOME, OUT, BOB_HOME), steps=0)
        others = [
            Habits((ANN, BOB), (HOME, OUT, BOB_HOME), steps=1),
            Habits((BOB, ANN), (HOME, OUT, BOB_HOME), steps=0),
            Habits((ANN, put(BOB, 2, 1)), (HOME, OUT, BOB_HOME), steps=0),
            Habits((put(ANN, 1, "still"), BOB), (HOME, OUT, BOB_HOME), steps=0),
            Habits((ANN, BOB), (OUT, HOME, BOB_HOME), steps=0),
            Habits((ANN, BOB), (HOME, BOB_HOME), steps=0),
            Habits((ANN, BOB), (HOME, put(OUT, 2, 2), BOB_HOME), steps=0),
            Habits((ANN, BOB), (HOME, put(OUT, 3, 3), BOB_HOME), steps=0),
            Habits((ANN, BOB), (HOME, put(OUT, 4, False), BOB_HOME), steps=0),
            Habits((ANN, BOB), (HOME, put(OUT, 5, False), BOB_HOME), steps=0),
        ]
        things = [thing for thing in any_things() if not isinstance(thing, Habits)]
        for other in others + things + [((ANN, BOB), (HOME, OUT, BOB_HOME), 0), habits.folk, "habits", object()]:
            self.assertFalse(habits == other)
            self.assertFalse(other == habits)
            self.assertTrue(habits != other)
            self.assertTrue(other != habits)

    def test_length(self):
        self.assertEqual(len(one_folk()), 1)
        self.assertEqual(len(pair()), 2)
        self.assertEqual(len(triple()), 3)


if __name__ == "__main__":
    unittest.main()
