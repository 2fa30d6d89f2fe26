"""Point 15: deeds taken back, twins, and when two houses are equal."""

import unittest

from cases import Refused, story, told_of
from nameagain.errors import Again, Full, NoDeeds, NoHeard, NoName, NoRun, NotHeld, Nothing, NoWay
from nameagain.habits import Habits
from nameagain.house import House
from samples import any_things, letter, one_folk, way

STILL = one_folk("still", 2)
SAYING = one_folk("saying", 2)
SENT = ((-1,), (letter(0),))
MIXED = Habits(
    (("ann", "saying", 2), ("bob", "still", 1)),
    (way("house", "ann"), way("house", "bob", 1, 1, True), way("ann", "house"), way("bob", "house")))
DEEDS = (
    lambda house: house.come(letters=("ann",)),
    lambda house: house.ask(0, "bob"),
    lambda house: house.come(),
    lambda house: house.send(1, "ann"),
    lambda house: house.night(),
    lambda house: house.go(0),
    lambda house: house.ask(0, "ann"),
    lambda house: house.night(((0, "ann", "burnt"), (1, "ann", "burnt"))),
    lambda house: house.night(((0, "ann", "none"),)),
    lambda house: house.come(letters=("ann", "bob")),
    lambda house: house.go(1),
)


class Back(Refused):
    def test_behind_each_deed(self):
        house, told = House(MIXED, 3), []
        for deed in DEEDS:
            told.append(told_of(house))
            ahead = house.twin()
            deed(house)
            self.assertFalse(told_of(house) == told[-1])
            self.assertIsNone(house.back())
            self.assertTrue(house == ahead)
            self.assertEqual(told_of(house), told[-1])
            deed(house)
        for one in told[::-1]:
            house.back()
            self.assertEqual(told_of(house), one)
        self.refused_by(Nothing, None, None, house.back)
        self.assertTrue(house == House(MIXED, 3))

    def test_nothing(self):
        house = House(MIXED)
        self.keeps_still(house, Nothing, None, None, house.back)
        house.come()
        house.back()
        self.keeps_still(house, Nothing, None, None, house.back)
        house.night()
        house.night()
        house.back()
        house.back()
        self.keeps_still(house, Nothing, None, None, house.back)
        self.assertEqual(house.day(), 0)

    def test_taken_back_it_never_was(self):
        house, twin = House(MIXED, 6), House(MIXED, 6)
        for deed in DEEDS:
            deed(house)
            house.back()
            house.send(house.come(), "ann")
            house.come(letters=("bob",))
            for _ in range(3):
                house.back()
            deed(house)
            deed(twin)
        self.assertTrue(house == twin)
        self.assertEqual(story(house), story(twin))

    def test_what_was_sent_is_taken_back(self):
        house = House(MIXED)
        house.come()
        house.send(0, "ann")
        self.keeps_still(house, Again, "text", "ann", house.send, 0, "ann")
        house.back()
        house.send(0, "ann")
        house.ask(0, "ann")
        house.back()
        house.ask(0, "ann")
        house.night()
        house.back()
        self.keeps_still(house, Again, "text", "ann", house.ask, 0, "ann")
        self.keeps_still(house, Again, "text", "ann", house.send, 0, "ann")

    def test_a_name_is_free_again_and_given_again(self):
        house = House(STILL, 1)
        house.come(letters=("ann",))
        self.keeps_still(house, Full, None, None, house.come)
        house.back()
        self.assertEqual(house.come(), 0)
        house.go(0)
        house.back()
        self.assertEqual(house.names(), ["held"])

    def test_a_refused_deed_is_none(self):
        house = House(MIXED, 1)
        house.come(letters=("ann",))
        for error, told, things in ((Full, house.come, ()), (NoName, house.go, (4,)), (Again, house.send, (0, "ann")),
                                    (NoWay, house.ask, (0, "cyd")), (NoHeard, house.night, (None,)),
                                    (NoRun, house.night, (((0, "ann", "none"),),))):
            self.keeps_still(house, error, None, None, told, *things)
        self.keeps_still(house, NoDeeds, None, None, house.come, letters=None)
        house.back()
        self.assertTrue(house == House(MIXED, 1))
        self.refused_by(Nothing, None, None, house.back)
        self.keeps_still(house, NotHeld, "name", 0, house.go, 0)
        self.refused_by(Nothing, None, None, house.back)


class Twins(Refused):
    def test_stands_the_same(self):
        house = House(MIXED, 3)
        for deed in DEEDS:
            deed(house)
            twin = house.twin()
            self.assertIsInstance(twin, House)
            self.assertIsNot(twin, house)
            self.assertTrue(twin == house)
            self.assertEqual(story(twin), story(house))

    def test_each_goes_its_own_way(self):
        for at in range(len(DEEDS)):
            one, other = House(MIXED, 3), House(MIXED, 3)
            for deed in DEEDS[:at]:
                deed(one)
                deed(other)
            twin = one.twin()
            for deed in DEEDS[at:]:
                deed(twin)
            self.assertEqual(story(one), story(other))
            for deed in DEEDS[at:]:
                deed(one)
            self.assertEqual(story(one), story(twin))

    def test_so_do_the_deeds_that_can_be_taken_back(self):
        house = House(MIXED, 3)
        for deed in DEEDS:
            deed(house)
        ahead = story(house)
        twin = house.twin()
        for _ in DEEDS:
            twin.back()
        self.refused_by(Nothing, None, None, twin.back)
        self.assertEqual(story(house), ahead)
        twin = house.twin()
        for _ in DEEDS[4:]:
            house.back()
        self.assertEqual(story(twin), ahead)
        self.assertEqual(story(house), ahead[len(DEEDS) - 4:])
        house.night()
        self.assertEqual(story(twin), ahead)

    def test_of_a_twin(self):
        house = House(MIXED, 2)
        house.come(letters=("bob",))
        twin = house.twin().twin()
        house.back()
        self.assertEqual(twin.names(), ["held", "free"])
        twin.back()
        self.assertTrue(twin == house)

    def test_what_was_sent_today(self):
        house = House(MIXED)
        house.come(letters=("ann",))
        twin = house.twin()
        self.keeps_still(twin, Again, "text", "ann", twin.send, 0, "ann")
        twin.send(0, "bob")
        house.send(0, "bob")
        self.assertTrue(house == twin)


class Equal(unittest.TestCase):
    def test_alike(self):
        self.assertTrue(House(MIXED) == House(Habits(MIXED.folk, MIXED.ways), 4))
        self.assertFalse(House(MIXED) != House(MIXED))

    def test_by_other_deeds(self):
        one, other = House(MIXED), House(MIXED)
        one.come(letters=("ann", "bob"))
        one.ask(0, "ann")
        other.come()
        other.ask(0, "ann")
        other.send(0, "bob")
        other.send(0, "ann")
        self.assertTrue(one == other)
        self.assertFalse(len(story(one)) == len(story(other)))

    def test_equal_lots_of_other_books(self):
        one, other = House(STILL), House(STILL)
        one.come(letters=("ann",))
        for _ in range(3):
            one.night()
        other.come()
        self.assertTrue(one == other)
        self.assertFalse(one.day() == other.day())
        one.send(0, "ann")
        self.assertFalse(one == other)
        other.send(0, "ann")
        self.assertTrue(one == other)

    def test_other_many(self):
        self.assertFalse(House(MIXED, 3) == House(MIXED, 4))
        self.assertTrue(House(MIXED, 3) != House(MIXED, 4))

    def test_other_habits(self):
        self.assertFalse(House(STILL) == House(SAYING))
        self.assertFalse(House(STILL) == House(one_folk("still", 2, steps=2)))
        self.assertTrue(House(STILL) == House(one_folk("still", 2)))

    def test_other_states(self):
        one, other = House(STILL), House(STILL)
        one.come()
        self.assertFalse(one == other)
        one.go(0)
        self.assertTrue(one == other)
        one.come(letters=("ann",))
        other.come(letters=("ann",))
        other.go(0)
        self.assertEqual(one.lot(0), other.lot(0))
        self.assertFalse(one == other)

    def test_other_lots(self):
        one, other = House(STILL), House(STILL)
        for house in (one, other):
            house.come(letters=("ann",))
        one.night()
        self.assertFalse(one == other)
        other.night()
        self.assertTrue(one == other)

    def test_other_names(self):
        one, other = House(STILL), House(STILL)
        for house in (one, other):
            house.come()
            house.come()
        one.send(0, "ann")
        other.send(1, "ann")
        self.assertFalse(one == other)
        one.send(1, "ann")
        other.send(0, "ann")
        self.assertTrue(one == other)

    def test_what_was_sent_today(self):
        # A letter that was sent today, and one of a lot of yesterday's that stands alike.
        habits = one_folk("still", None, out=way("house", "ann", 1, 1, True))
        one, other = House(habits), House(habits)
        for house in (one, other):
            house.come(letters=("ann",))
            house.night()
            house.ask(0, "ann")
        self.assertTrue(one == other)
        one.night()
        other.night()
        self.assertTrue(one == other)
        other.ask(0, "ann")
        self.assertFalse(one == other)
        other.back()
        one.send(0, "ann")
        self.assertFalse(one == other)
        one.back()
        self.assertTrue(one == other)

    def test_unlike_any_other_thing(self):
        house = House(STILL)
        for thing in any_things() + [STILL, told_of(house), house.names(), House]:
            self.assertFalse(house == thing)
            self.assertTrue(house != thing)
            self.assertFalse(thing == house)


class DayIsNoMatter(unittest.TestCase):
    def test_days_and_deeds_alone_make_no_house_unlike(self):
        one, other = House(STILL), House(STILL)
        for _ in range(40):
            one.night()
        self.assertTrue(one == other)
        self.assertEqual((one.day(), other.day()), (40, 0))


if __name__ == "__main__":
    unittest.main()
