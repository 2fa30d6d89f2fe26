"""Point 15: a house, its names, and the deeds that change one of them."""

import unittest

from cases import Refused, story, told_of
from nameagain.errors import Again, Full, NoDeeds, NoHabits, NoName, NotHeld, NoWay, TooMany
from nameagain.habits import Habits
from nameagain.house import House
from nameagain.lots import lot_of
from samples import any_things, ask, day, letter, one_folk, sends, several, wants, way

STILL = one_folk("still", 2)
EMPTY, NOTE, SENT = ((-1,), ()), ((0,), ()), ((-1,), (letter(0),))
# bob has no way from the house; what is sent to cyd may be lost.
HABITS = Habits(
    (("ann", "saying", 2), ("bob", "saying", None), ("cyd", "still", 1)),
    (way("house", "cyd", 1, 1, True), way("house", "ann"), way("ann", "house"), way("bob", "house"),
     way("cyd", "house"), way("ann", "bob")))
BARE = (((-1, -1, -1), ()),)
# Six asks wait on their ways at once, a seventh would be too many; nothing is lost.
SLOW = several("ann", "bob", kind="still")
SLOW = Habits(SLOW.folk, tuple(way(one[0], one[1], 3, 3) for one in SLOW.ways))


class Made(Refused):
    def test_many(self):
        for many in range(1, 9):
            house = House(HABITS, many)
            self.assertEqual(told_of(house), (0, ["free"] * many, [BARE] * many, 0))
            self.assertTrue(house == House(habits=HABITS, many=many))

    def test_four_where_left_out(self):
        self.assertEqual(House(HABITS).names(), ["free"] * 4)
        self.assertTrue(House(habits=HABITS) == House(HABITS, 4))

    def test_no_such_many(self):
        for many in [0, 9, -1, True, False, "4", "", None, 10 ** 79, (), [4], (4,), HABITS, House(HABITS)]:
            self.refused_by(NoHabits, "where", "many", House, HABITS, many)
        for thing in any_things():
            if isinstance(thing, bool) or not isinstance(thing, int) or not 1 <= thing <= 8:
                self.refused_by(NoHabits, "where", "many", House, HABITS, thing)


class Come(Refused):
    def test_told_and_changed(self):
        house = House(HABITS, 3)
        name = house.come()
        self.assertEqual(name, 0)
        self.assertIs(type(name), int)
        self.assertEqual(told_of(house), (0, ["held", "free", "free"], [BARE] * 3, 1))
        self.assertEqual(house.come(letters=("ann",)), 1)
        self.assertEqual(house.lot(1), lot_of(HABITS, (sends("ann"),)))
        self.assertEqual(house.come(letters=("ann", "cyd")), 2)
        self.assertEqual(house.lot(2), lot_of(HABITS, (sends("ann", "cyd"),)))
        self.assertEqual(len(house.lot(2)), 2)
        self.assertEqual((house.names(), len(house), house.day()), (["held"] * 3, 3, 0))

    def test_the_least_free_name(self):
        house = House(HABITS, 4)
        self.assertEqual([house.come() for _ in range(4)], [0, 1, 2, 3])
        house.go(2)
        house.go(1)
        self.assertEqual([house.come(), house.come()], [1, 2])

    def test_a_left_name_is_not_given(self):
        house = House(STILL, 2)
        house.come(letters=("ann",))
        house.go(0)
        self.assertEqual([house.come(), house.names()], [1, ["left", "held"]])
        self.keeps_still(house, Full, None, None, house.come)

    def test_letters_by_their_name_alone(self):
        with self.assertRaises(TypeError):
            House(HABITS).come(("ann",))

    def test_no_deeds(self):
        house = House(HABITS)
        for thing in [("bob",), ("cyd", "ann"), ("ann", "ann"), ["ann"], "ann", ("house",), ("dan",), None, 0]:
            self.keeps_still(house, NoDeeds, None, None, house.come, letters=thing)
        for thing in any_things() + [house, House]:
            if thing != () or isinstance(thing, list):
                self.refused_by(NoDeeds, None, None, house.come, letters=thing)
            if thing != "ann":
                self.refused_by(NoDeeds, None, None, house.come, letters=(thing,))
        self.assertEqual(story(house), story(House(HABITS)))

    def test_full(self):
        for many in (1, 2, 8):
            house = House(STILL, many)
            for _ in range(many):
                house.come()
            self.keeps_still(house, Full, None, None, house.come)
            self.keeps_still(house, Full, None, None, house.come, letters=("ann",))

    def test_no_deeds_ahead_of_full(self):
        house = House(HABITS, 1)
        house.come()
        self.keeps_still(house, NoDeeds, None, None, house.come, letters=("bob",))
        self.keeps_still(house, NoDeeds, None, None, house.come, letters=None)


class Go(Refused):
    def test_to_left_or_free(self):
        house = House(STILL)
        house.come(letters=("ann",))
        house.come()
        self.assertIsNone(house.go(0))
        self.assertEqual(told_of(house), (0, ["left", "held", "free", "free"], [(SENT,)] + [(EMPTY,)] * 3, 1))
        self.assertIsNone(house.go(name=1))
        self.assertEqual(told_of(house), (0, ["left", "free", "free", "free"], [(SENT,)] + [(EMPTY,)] * 3, 0))

    def test_where_a_letter_may_be_lost(self):
        house = House(HABITS)
        house.come(letters=("cyd",))
        house.go(0)
        self.assertEqual(house.names()[0], "left")

    def test_free_as_soon_as_nothing_may_be_left(self):
        for nights in range(5):
            house = House(STILL, 1)
            house.come(letters=("ann",))
            for _ in range(nights):
                house.night()
            self.assertEqual(house.names(), ["held"])
            house.go(0)
            self.assertEqual(house.names(), ["left" if nights < 3 else "free"])

    def test_no_name(self):
        house = House(HABITS, 2)
        house.come()
        house.come()
        for name in (2, -1, True, False, "0", None, (0,), [0], 10 ** 79, HABITS):
            self.keeps_still(house, NoName, "name", name, house.go, name)
        for thing in any_things():
            if isinstance(thing, bool) or thing not in (0, 1):
                self.refused_by(NoName, "name", thing, house.go, thing)

    def test_not_held(self):
        house = House(STILL, 3)
        house.come(letters=("ann",))
        house.go(0)
        house.come()
        house.go(1)
        for name in (0, 1, 2):
            self.keeps_still(house, NotHeld, "name", name, house.go, name)


class Send(Refused):
    def test_told_and_changed(self):
        house = House(HABITS, 2)
        house.come()
        house.come()
        self.assertIsNone(house.send(1, "ann"))
        self.assertEqual(told_of(house), (0, ["held"] * 2, [BARE, lot_of(HABITS, (sends("ann"),))], 2))
        self.assertIsNone(house.send(name=1, text="cyd"))
        self.assertEqual(house.lot(1), lot_of(HABITS, (sends("ann", "cyd"),)))
        self.assertEqual(house.lot(0), BARE)

    def test_as_one_with_what_came(self):
        one, other = House(HABITS), House(HABITS)
        one.come(letters=("ann", "cyd"))
        other.come()
        other.send(0, "cyd")
        other.send(0, "ann")
        self.assertEqual(one.lot(0), other.lot(0))
        self.assertTrue(one == other)

    def test_again(self):
        house = House(HABITS)
        house.come(letters=("ann",))
        self.keeps_still(house, Again, "text", "ann", house.send, 0, "ann")
        house.send(0, "cyd")
        self.keeps_still(house, Again, "text", "cyd", house.send, 0, "cyd")
        house.ask(0, "ann")
        self.keeps_still(house, Again, "text", "ann", house.send, 0, "ann")
        house.come()
        house.send(1, "ann")
        house.night()
        house.send(0, "ann")
        self.keeps_still(house, Again, "text", "ann", house.send, 0, "ann")
        house.send(0, "cyd")

    def test_held_alone(self):
        house = House(STILL, 2)
        self.keeps_still(house, NotHeld, "name", 0, house.send, 0, "ann")
        house.come(letters=("ann",))
        house.go(0)
        self.keeps_still(house, NotHeld, "name", 0, house.send, 0, "ann")
        house.night()
        self.keeps_still(house, NotHeld, "name", 0, house.send, 0, "ann")

    def test_no_way(self):
        house = House(HABITS)
        house.come()
        for text in ("bob", "house", "dan", "", "Ann", None, 0, True, ("ann",), ["ann"], HABITS):
            for deed in (house.send, house.ask):
                self.keeps_still(house, NoWay, "text", text, deed, 0, text)
        for thing in any_things():
            if thing != "ann":
                self.refused_by(NoWay, "text", thing, house.send, 0, thing)
                self.refused_by(NoWay, "text", thing, house.ask, 0, thing)

    def test_no_name(self):
        house = House(HABITS, 2)
        house.come()
        for thing in any_things():
            if isinstance(thing, bool) or thing not in (0, 1):
                self.refused_by(NoName, "name", thing, house.send, thing, "ann")
                self.refused_by(NoName, "name", thing, house.ask, thing, "ann")
        self.keeps_still(house, NoName, "name", 2, house.send, 2, "ann")
        self.keeps_still(house, NoName, "name", True, house.ask, True, "ann")


class Ask(Refused):
    def test_of_a_held_name(self):
        house = House(HABITS)
        house.come()
        self.assertIsNone(house.ask(0, "ann"))
        lots = [lot_of(HABITS, (wants("ann"),))] + [BARE] * 3
        self.assertEqual(told_of(house)[1:], (["held"] + ["free"] * 3, lots, 1))
        self.assertIsNone(house.ask(name=0, text="cyd"))
        self.assertEqual(house.lot(0), lot_of(HABITS, (wants("ann", "cyd"),)))

    def test_of_a_left_name(self):
        house = House(STILL, 1)
        house.come(letters=("ann",))
        house.go(0)
        house.ask(0, "ann")
        self.assertEqual(house.lot(0), (((-1,), (ask(0), letter(0))),))
        self.assertEqual(house.names(), ["left"])
        house.night()
        self.assertEqual(house.lot(0), (EMPTY, NOTE))
        house.ask(0, "ann")
        house.night()
        self.assertEqual((house.names(), house.lot(0)), (["free"], (EMPTY,)))

    def test_of_a_free_name(self):
        house = House(STILL, 2)
        house.come()
        self.keeps_still(house, NotHeld, "name", 1, house.ask, 1, "ann")
        house.go(0)
        self.keeps_still(house, NotHeld, "name", 0, house.ask, 0, "ann")

    def test_again(self):
        house = House(HABITS)
        house.come(letters=("ann", "cyd"))
        house.ask(0, "ann")
        self.keeps_still(house, Again, "text", "ann", house.ask, 0, "ann")
        house.go(0)
        self.keeps_still(house, Again, "text", "ann", house.ask, 0, "ann")
        house.ask(0, "cyd")
        house.night()
        house.ask(0, "ann")
        self.keeps_still(house, Again, "text", "ann", house.ask, 0, "ann")

    def test_letter_and_ask_of_one_day(self):
        house = House(HABITS)
        house.come(letters=("ann",))
        house.ask(0, "ann")
        self.assertEqual(house.lot(0), lot_of(HABITS, (day((), ("ann",), ("ann",)),)))


class Order(Refused):
    """Of several refusals that are due the first one in the brackets is made."""

    def full_of_asks(self):
        """A house with six things of a name under way: letters and asks of ann, for three days."""
        house = House(SLOW, 2)
        house.come()
        for at in range(3):
            house.send(0, "ann")
            house.ask(0, "ann")
            if at < 2:
                house.night()
        self.assertEqual(len(house.lot(0)[0][1]), 6)
        return house

    def test_too_many_things_under_way(self):
        house = self.full_of_asks()
        self.keeps_still(house, TooMany, "at", 0, house.send, 0, "bob")
        self.keeps_still(house, TooMany, "at", 0, house.ask, 0, "bob")
        house.go(0)
        self.keeps_still(house, TooMany, "at", 0, house.ask, 0, "bob")
        house = House(SLOW, 8)
        for _ in range(7):
            house.come()
        for word in (house.send, house.ask):
            word(6, "ann")
            word(6, "bob")
        house.night()
        house.send(6, "ann")
        house.ask(6, "ann")
        self.keeps_still(house, TooMany, "at", 6, house.send, 6, "bob")
        self.keeps_still(house, TooMany, "at", 6, house.ask, 6, "bob")
        house.send(5, "bob")

    def test_too_many_is_the_last(self):
        house = self.full_of_asks()
        for deed in (house.send, house.ask):
            self.keeps_still(house, Again, "text", "ann", deed, 0, "ann")
            self.keeps_still(house, NoWay, "text", "cyd", deed, 0, "cyd")
            self.keeps_still(house, NoName, "name", 2, deed, 2, "bob")
        house.go(0)
        self.keeps_still(house, NotHeld, "name", 0, house.send, 0, "bob")

    def test_no_name_first(self):
        house = House(HABITS, 1)
        house.come(letters=("ann",))
        house.ask(0, "ann")
        for deed in (house.send, house.ask):
            self.keeps_still(house, NoName, "name", 1, deed, 1, None)
            self.keeps_still(house, NoName, "name", True, deed, True, "ann")

    def test_not_held_ahead_of_no_way_and_again(self):
        house = House(HABITS, 2)
        house.come(letters=("ann",))
        house.go(0)
        for text in ("ann", "bob", None):
            self.keeps_still(house, NotHeld, "name", 0, house.send, 0, text)
            self.keeps_still(house, NotHeld, "name", 1, house.send, 1, text)
            self.keeps_still(house, NotHeld, "name", 1, house.ask, 1, text)
        self.keeps_still(house, NoWay, "text", "bob", house.ask, 0, "bob")

    def test_just_three_hundred_stands_and_more(self):
        # Of ann there are fifteen stands, of bob five, of cyd two; what may be lost makes them twice as many.
        ways = (way("house", "ann", 1, 2, False, True), way("house", "bob", 1, 2, False, True),
                way("house", "cyd", 1, 1, True)) + tuple(way(text, "house") for text in ("ann", "bob", "cyd"))
        house = House(Habits(tuple((text, "still", 1) for text in ("ann", "bob", "cyd")), ways), 2)
        house.come()
        house.come(letters=("ann", "bob", "cyd"))
        house.ask(1, "ann")
        house.night()
        self.assertEqual(len(house.lot(1)), 150)
        house.ask(1, "cyd")
        self.assertEqual(len(house.lot(1)), 300)
        self.keeps_still(house, TooMany, "at", 1, house.send, 1, "cyd")
        self.keeps_still(house, Again, "text", "cyd", house.ask, 1, "cyd")
        house.send(1, "ann")
        self.assertEqual(len(house.lot(1)), 300)
        house.go(1)
        house.back()
        house.back()
        house.back()
        house.send(1, "cyd")
        self.assertEqual(len(house.lot(1)), 300)
        house.go(1)
        self.keeps_still(house, TooMany, "at", 1, house.ask, 1, "cyd")


class Told(unittest.TestCase):
    def test_new_lists(self):
        house = House(HABITS)
        for told in (house.names(), house.night()):
            self.assertIsInstance(told, list)
            told.append("held")
            told.reverse()
        self.assertEqual(house.names(), ["free"] * 4)
        self.assertEqual(house.night(), [])
        self.assertIsNot(house.names(), house.names())

    def test_lots_are_told_as_tuples(self):
        house = House(HABITS)
        house.come(letters=("ann",))
        self.assertIsInstance(house.lot(0), tuple)
        self.assertEqual(house.lot(name=3), BARE)
        self.assertIs(type(house.day()), int)

    def test_len(self):
        house = House(STILL)
        house.come(letters=("ann",))
        house.come()
        self.assertEqual(len(house), 2)
        house.go(0)
        self.assertEqual(len(house), 1)
        house.go(1)
        self.assertEqual(len(house), 0)
        house.night()
        self.assertEqual(len(house), 0)

    def test_lot_of_no_name(self):
        house = House(HABITS, 2)
        for thing in any_things() + [2, -1]:
            if isinstance(thing, bool) or thing not in (0, 1):
                with self.assertRaises(NoName) as caught:
                    house.lot(thing)
                self.assertIs(caught.exception.name, thing)


if __name__ == "__main__":
    unittest.main()
