"""Point 8: the evenings of a stand, by the house's deeds."""

import unittest

from nameagain.days import bare, evenings, is_stand
from nameagain.errors import NoDeeds, NoStand, TooMany
from nameagain.habits import Habits
from samples import any_things, ask, letter, number, one_folk, pair, triple, way


THREE = Habits(
    (("cyd", "still", 1), ("ann", "saying", 1), ("bob", "still", 1)),
    (way("cyd", "house"), way("house", "cyd"), way("house", "ann", loses=True), way("ann", "house", loses=True),
     way("bob", "house"), way("ann", "bob", loses=True)), steps=1)
TO_CYD, TO_ANN = 1, 2
EMPTY = bare(THREE)


def under(*rows):
    """The stands of THREE without notes and with these rows under way."""
    return [((-1, -1, -1), row) for row in rows]


class Deeds(unittest.TestCase):
    def test_none(self):
        for stand in (EMPTY, ((0, -1, 0), (letter(TO_CYD), ask(TO_ANN)))):
            for told in (evenings(THREE, stand), evenings(THREE, stand, letters=()), evenings(THREE, stand, asks=()),
                         evenings(THREE, stand, letters=(), asks=()), evenings(habits=THREE, stand=stand)):
                self.assertEqual(told, [stand])

    def test_a_letter(self):
        self.assertEqual(evenings(THREE, EMPTY, letters=("cyd",)), under((letter(TO_CYD),)))
        self.assertEqual(evenings(THREE, EMPTY, letters=("ann",)), under((), (letter(TO_ANN),)))

    def test_an_ask(self):
        self.assertEqual(evenings(THREE, EMPTY, asks=("cyd",)), under((ask(TO_CYD),)))
        self.assertEqual(evenings(THREE, EMPTY, asks=("ann",)), under((), (ask(TO_ANN),)))

    def test_both(self):
        self.assertEqual(evenings(THREE, EMPTY, letters=("cyd",), asks=("cyd",)),
                         under((ask(TO_CYD), letter(TO_CYD))))
        self.assertEqual(evenings(THREE, EMPTY, letters=("ann", "cyd"), asks=("ann",)),
                         under((letter(TO_CYD),), (letter(TO_CYD), ask(TO_ANN)),
                               (letter(TO_CYD), ask(TO_ANN), letter(TO_ANN)), (letter(TO_CYD), letter(TO_ANN))))

    def test_put_to_what_is_under_way(self):
        stand = ((0, -1, -1), (letter(TO_CYD), letter(5, 0, 1)))
        self.assertEqual(evenings(THREE, stand, letters=("ann", "cyd"), asks=("cyd",)),
                         [((0, -1, -1), (ask(TO_CYD), letter(TO_CYD), letter(TO_CYD), letter(TO_ANN), letter(5, 0, 1))),
                          ((0, -1, -1), (ask(TO_CYD), letter(TO_CYD), letter(TO_CYD), letter(5, 0, 1)))])

    def test_notes_and_days_stay(self):
        habits = one_folk("saying", 3, out=way("house", "ann", 3, 3))
        stand = ((2,), (letter(0, 2),))
        self.assertEqual(evenings(habits, stand, asks=("ann",)), [((2,), (ask(0), letter(0, 2)))])

    def test_each_once_and_sorted(self):
        habits = triple(loses=True)
        rows = evenings(habits, bare(habits), letters=("ann", "bob", "cyd"), asks=("ann", "bob", "cyd"))
        self.assertEqual(rows, sorted(set(rows)))
        self.assertEqual(len(rows), 2 ** 6)
        self.assertTrue(all(is_stand(habits, stand) for stand in rows))
        home = number(habits, "house", "ann")
        self.assertEqual(evenings(habits, ((-1,) * 3, (letter(home),)), letters=("ann",)),
                         [((-1,) * 3, (letter(home),)), ((-1,) * 3, (letter(home), letter(home)))])

    def test_lists_are_new(self):
        told = evenings(THREE, EMPTY, letters=("ann",))
        expected = list(told)
        self.assertIsNot(evenings(THREE, EMPTY, letters=("ann",)), told)
        told.clear()
        self.assertEqual(evenings(THREE, EMPTY, letters=("ann",)), expected)
        evenings(THREE, EMPTY).append(None)
        self.assertEqual(evenings(THREE, EMPTY), [EMPTY])

    def test_by_names_alone(self):
        with self.assertRaises(TypeError):
            evenings(THREE, EMPTY, ("ann",))


class Refusals(unittest.TestCase):
    def no_deeds(self, habits, thing):
        """The thing is taken neither as letters nor as asks, whatever stands beside it."""
        for letters, asks in ((thing, ()), ((), thing), (thing, thing), (thing, ("ann",)), (("ann",), thing)):
            with self.assertRaises(NoDeeds):
                evenings(habits, bare(habits), letters=letters, asks=asks)

    def test_folk_without_a_way_from_the_house(self):
        self.no_deeds(THREE, ("bob",))
        self.no_deeds(THREE, ("ann", "bob"))
        self.no_deeds(pair(), ("bob",))

    def test_no_folk(self):
        for text in ("dan", "house", "", "Ann", "ann ", "an", None, True, 0, ("ann",), ["ann"]):
            self.no_deeds(THREE, (text,))
            self.no_deeds(THREE, ("ann", text))

    def test_unsorted_and_twice(self):
        self.no_deeds(THREE, ("cyd", "ann"))
        self.no_deeds(THREE, ("ann", "ann"))
        self.no_deeds(THREE, ("ann", "cyd", "cyd"))
        self.no_deeds(triple(), ("ann", "cyd", "bob"))
        self.no_deeds(triple(), ("bob", "cyd", "ann"))

    def test_no_tuples(self):
        for thing in ([], ["ann"], "ann", "", {"ann": True}, None, False, 0):
            self.no_deeds(THREE, thing)

    def test_any_thing(self):
        for thing in any_things():
            if thing != () or isinstance(thing, list):
                self.no_deeds(THREE, thing)
            self.no_deeds(THREE, ("ann", thing))
            if thing != "ann":
                self.no_deeds(THREE, (thing,))

    def test_no_stand(self):
        for thing in any_things() + [((0,), ()), ((1, 0, 0), ()), [(0, 0, 0), ()], ((False, 0, 0), ())]:
            with self.assertRaises(NoStand):
                evenings(THREE, thing)

    def too_many(self, habits, stand, **deeds):
        with self.assertRaises(TooMany) as caught:
            evenings(habits, stand, **deeds)
        self.assertEqual(caught.exception.at, 0)

    def test_six_and_seven(self):
        habits = one_folk("still", out=way("house", "ann", 2, 2))
        six = ((-1,), (ask(0, 1),) * 6)
        self.assertEqual(evenings(habits, six), [six])
        self.assertEqual(evenings(habits, ((-1,), (ask(0, 1),) * 5), letters=("ann",)),
                         [((-1,), (ask(0, 1),) * 5 + (letter(0),))])
        self.assertEqual(evenings(habits, ((-1,), (ask(0, 1),) * 4), letters=("ann",), asks=("ann",)),
                         [((-1,), (ask(0),) + (ask(0, 1),) * 4 + (letter(0),))])
        self.too_many(habits, six, letters=("ann",))
        self.too_many(habits, six, asks=("ann",))
        self.too_many(habits, ((-1,), (ask(0, 1),) * 5), letters=("ann",), asks=("ann",))
        for many in (7, 10):
            self.too_many(habits, ((-1,), (ask(0, 1),) * many))

    def test_seven_where_none_may_be_lost(self):
        lossy = one_folk("still", out=way("house", "ann", 2, 2, True))
        self.too_many(lossy, ((-1,), (ask(0, 1),) * 6), letters=("ann",))
        self.assertEqual(len(evenings(lossy, ((-1,), (ask(0, 1),) * 5), letters=("ann",))), 2)

    def test_the_first_refusal(self):
        seven = ((-1, -1, -1), (ask(TO_CYD),) * 7)
        self.too_many(THREE, seven)
        with self.assertRaises(NoDeeds):
            evenings(THREE, seven, letters=("bob",))
        with self.assertRaises(NoDeeds):
            evenings(THREE, seven, letters=("cyd",), asks=["cyd"])
        with self.assertRaises(NoStand):
            evenings(THREE, ((1, -1, -1), seven[1]), asks=("bob",))
        with self.assertRaises(NoStand):
            evenings(THREE, None, letters=None, asks=None)


if __name__ == "__main__":
    unittest.main()
