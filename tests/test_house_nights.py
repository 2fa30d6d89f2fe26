"""Point 15: what a house hears in a night, of which names, and what becomes of these."""

import unittest

from cases import Refused, story, told_of
from nameagain.errors import NoHeard, NoRun, TooMany
from nameagain.habits import Habits
from nameagain.house import House
from nameagain.lots import hearings, lot_of, next_lot
from samples import QUIET, any_things, day, hears, one_folk, put, said, sends, several, way

SAYING = one_folk("saying", 2)
STILL = one_folk("still", 2)
EMPTY = ((-1,), ())
BURNT, NONE = ("ann", "burnt"), ("ann", "none")
# cyd is still.
MIXED = Habits(
    (("bob", "saying", 1), ("ann", "saying", 1), ("cyd", "still", 1)),
    (way("house", "bob"), way("house", "ann"), way("house", "cyd"), way("ann", "house"), way("bob", "house"),
     way("cyd", "house")))
# Of ann, asked and sent a letter, there are fifteen stands behind a night, of a letter to bob five.
MANY = Habits(tuple((text, "still", 2) for text in ("ann", "bob", "cyd")),
              (way("house", "ann", 1, 2, False, True), way("house", "bob", 1, 2, False, True),
               way("house", "cyd", 1, 3)) + tuple(way(text, "house") for text in ("ann", "bob", "cyd")))


def of(name, *words):
    """The words heard of a name, as a night is told."""
    return tuple((name,) + word for word in words)


class Nights(Refused):
    def test_the_next_day(self):
        house = House(SAYING)
        for number in range(1, 5):
            told = house.night()
            self.assertEqual(told, [])
            self.assertIsInstance(told, list)
            self.assertEqual(told_of(house), (number, ["free"] * 4, [(EMPTY,)] * 4, 0))

    def test_heard_left_out_and_by_name(self):
        for night in (lambda house: house.night(), lambda house: house.night(()), lambda house: house.night(heard=())):
            house = House(SAYING, 1)
            house.come(letters=("ann",))
            self.assertEqual(night(house), [])
            self.assertEqual(house.lot(0), lot_of(SAYING, (sends("ann"), QUIET)))

    def test_words_of_a_name(self):
        house = House(SAYING, 2)
        house.come()
        house.come(letters=("ann",))
        house.night()
        house.night(of(1, BURNT))
        self.assertEqual((house.lot(1), house.lot(0)), ((EMPTY,), (EMPTY,)))
        self.assertEqual(house.names(), ["held", "held"])

    def test_words_of_several_names(self):
        house = House(MIXED, 4)
        house.come(letters=("ann",))
        house.come(letters=("ann", "bob"))
        house.come()
        house.ask(2, "ann")
        for name in (0, 1, 2):
            house.go(name)
        house.night()
        twin = house.twin()
        words = ((0, "ann", "burnt"), (1, "ann", "burnt"), (1, "bob", "burnt"), (2, "ann", "none"))
        self.assertEqual(house.night(words), [0, 1, 2])
        self.assertEqual(house.names(), ["free"] * 4)
        self.assertEqual(twin.night(((1, "bob", "burnt"), (2, "ann", "none"))), [2])
        self.assertEqual(twin.names(), ["left", "left", "free", "free"])
        self.assertEqual(twin.lot(0), lot_of(MIXED, (sends("ann"), QUIET, QUIET)))
        self.assertEqual(twin.lot(1), lot_of(MIXED, (sends("ann", "bob"), QUIET, hears(("bob", "burnt")))))

    def test_free_are_the_left_ones_alone(self):
        house = House(STILL, 3)
        house.come(letters=("ann",))
        house.come(letters=("ann",))
        house.go(1)
        told = [house.night() for _ in range(5)]
        self.assertEqual(told, [[], [], [1], [], []])
        self.assertEqual(house.names(), ["held", "free", "free"])
        self.assertEqual(house.lot(0), (EMPTY,))

    def test_names_told_rising(self):
        house = House(STILL, 8)
        for _ in range(8):
            house.come(letters=("ann",))
        for name in (5, 0, 7, 2):
            house.go(name)
        self.assertEqual([house.night() for _ in range(3)], [[], [], [0, 2, 5, 7]])

    def test_sent_today_no_more(self):
        house = House(STILL, 1)
        house.come(letters=("ann",))
        house.ask(0, "ann")
        house.night()
        house.send(0, "ann")
        house.ask(0, "ann")
        self.assertEqual(house.lot(0), lot_of(STILL, (day((), ("ann",), ("ann",)), day((), ("ann",), ("ann",)))))


class Lots(Refused):
    def test_those_of_their_books_so_far(self):
        habits = one_folk("saying", 2, home=way("ann", "house", 1, 2))
        deeds = {0: (("ann",), ()), 2: ((), ("ann",)), 3: (("ann",), ("ann",)), 9: ((), ("ann",)), 20: (("ann",), ())}
        for turn in (0, -1):
            house, book = House(habits, 3), ()
            house.come()
            house.come()
            for at in range(30):
                letters, asks = deeds.get(at, ((), ()))
                heard = ()
                if at == 0:
                    self.assertEqual(house.come(letters=letters), 2)
                else:
                    heard = hearings(habits, house.lot(2))[turn]
                    house.night(of(2, *heard))
                    for text in letters:
                        house.send(2, text)
                for text in asks:
                    house.ask(2, text)
                book += (day(heard, letters, asks),)
                self.assertEqual(house.lot(2), lot_of(habits, book))
            self.assertEqual((len(book), house.day(), house.lot(0)), (30, 29, (EMPTY,)))
            self.assertGreater(len({heard for heard, _, _ in book}), 1)

    def test_behind_more_nights_than_a_book_has_days(self):
        habits = one_folk("still", None)
        house = House(habits, 2)
        house.come(letters=("ann",))
        house.come(letters=("ann",))
        house.go(1)
        lot = house.lot(0)
        for number in range(1, 101):
            house.night()
            lot = next_lot(habits, lot)
            self.assertEqual((house.day(), house.lot(0), house.lot(1)), (number, lot, lot))
        self.assertEqual(house.names(), ["held", "left"])
        house.ask(1, "ann")
        self.assertEqual(house.night(), [1])
        self.assertEqual(house.day(), 101)
        self.assertEqual(house.come(letters=("ann",)), 1)
        self.assertEqual(house.lot(1), lot_of(habits, (sends("ann"),)))

    def test_a_name_given_again_has_a_book_of_its_own(self):
        house = House(STILL, 1)
        for _ in range(12):
            self.assertEqual(house.come(letters=("ann",)), 0)
            house.night()
            house.go(0)
            self.assertEqual([house.night(), house.night()], [[], [0]])
        self.assertEqual(house.day(), 36)


class NoHeards(Refused):
    def test_of_each_kind(self):
        house = House(MIXED, 3)
        house.come(letters=("ann", "bob"))
        house.ask(0, "ann")
        good = (0, "ann", "none")
        for heard in [[good], (list(good),), (good, (0, "ann", "burnt")), ((1, "bob", "none"), good), good, "none",
                      None, ((3, "ann", "none"),), ((-1, "ann", "none"),), ((True, "ann", "none"),),
                      (("0", "ann", "none"),), ((None, "ann", "none"),), ((0, "cyd", "none"),), ((0, "dan", "none"),),
                      ((0, "house", "none"),), ((0, "ann", "letter"),), ((0, "ann", "ask"),), ((0, "ann"),),
                      ((0, "ann", "none", 0),),
                      (("ann", "none"),), ((0, ("ann", "none")),), ((0, "ann", None),), ((0, None, "none"),),
                      (good, (2, "cyd", "burnt")), (good, (7, "ann", "none")), (good, None), 0, True, {}]:
            self.keeps_still(house, NoHeard, None, None, house.night, heard)

    def test_any_thing(self):
        house = House(MIXED, 3)
        house.come(letters=("ann", "bob"))
        good = (0, "ann", "none")
        for thing in any_things() + [house]:
            if thing != () or isinstance(thing, list):
                self.refused_by(NoHeard, None, None, house.night, thing)
            self.refused_by(NoHeard, None, None, house.night, (thing,))
            self.refused_by(NoHeard, None, None, house.night, (good, thing))
            for at in (1, 2):
                if put(good, at, thing)[1:] != ("ann", "none"):
                    self.refused_by(NoHeard, None, None, house.night, (put(good, at, thing),))
            if isinstance(thing, bool) or thing not in (0, 1, 2):
                self.refused_by(NoHeard, None, None, house.night, (put(good, 0, thing),))
        self.assertEqual(house.day(), 0)

    def test_of_a_free_name_too(self):
        house = House(MIXED, 2)
        self.keeps_still(house, NoHeard, None, None, house.night, ((1, "cyd", "none"),))
        self.keeps_still(house, NoRun, "at", 1, house.night, ((1, "ann", "none"),))

    def test_ahead_of_no_run_and_too_many(self):
        house = House(MIXED, 2)
        self.keeps_still(house, NoHeard, None, None, house.night, ((0, "ann", "none"), (0, "ann", "burnt")))
        house = too_long(House(too_long_habits(True), 2), 0)
        self.keeps_still(house, NoHeard, None, None, house.night, ((5, "ann", "none"),))

    def test_alike_words_are_heard(self):
        # Two asks of two days may come on one day, and be answered on one.
        habits = one_folk("saying", None, out=way("house", "ann", 1, 2))
        house = House(habits, 1)
        house.come()
        house.ask(0, "ann")
        house.night()
        house.ask(0, "ann")
        house.night()
        house.night(of(0, NONE, NONE))
        self.assertEqual(house.lot(0), (EMPTY,))


def too_long_habits(told):
    """Habits where of three letters and asks six words may be sent, and one letter told on besides."""
    more = (way("ann", "bob"),) if told else ()
    return several("ann", "bob", "cyd", keep=1, ways=more)


def too_long(house, name):
    """The house with a letter and an ask of a name to each folk; the names below are held."""
    for _ in range(name + 1):
        house.come()
    for text in ("ann", "bob", "cyd"):
        house.send(name, text)
        house.ask(name, text)
    return house


class NoRunsAndTooMany(Refused):
    def test_no_run_with_the_least_name(self):
        house = House(MIXED, 4)
        for _ in range(3):
            house.come(letters=("ann",))
        self.keeps_still(house, NoRun, "at", 1, house.night, of(1, BURNT) + of(2, BURNT))
        self.keeps_still(house, NoRun, "at", 2, house.night, of(2, BURNT))
        self.keeps_still(house, NoRun, "at", 0, house.night, of(0, BURNT) + of(3, BURNT))
        self.keeps_still(house, NoRun, "at", 3, house.night, of(3, BURNT))
        self.assertIs(type(story(house)[0][0]), int)

    def test_a_word_that_had_to_come(self):
        house = House(MIXED, 3)
        house.come()
        house.come()
        house.ask(1, "ann")
        house.night()
        self.assertEqual(house.lot(1), (((-1, -1, -1), (said(3, "none"),)),))
        self.keeps_still(house, NoRun, "at", 1, house.night)
        self.keeps_still(house, NoRun, "at", 1, house.night, ((2, "ann", "none"),))
        self.keeps_still(house, NoRun, "at", 0, house.night, ((0, "ann", "none"), (1, "ann", "none")))
        house.night(((1, "ann", "none"),))

    def test_six_and_seven_under_way(self):
        house = too_long(House(too_long_habits(False), 2), 1)
        house.night()
        self.assertEqual(max(len(stand[1]) for stand in house.lot(1)), 6)
        for name in range(8):
            house = too_long(House(too_long_habits(True), 8), name)
            self.keeps_still(house, TooMany, "at", name, house.night)

    def test_just_three_hundred_stands(self):
        house = House(MANY, 2)
        house.come()
        house.come(letters=("cyd",))
        house.night()
        house.send(1, "ann")
        house.ask(1, "ann")
        house.send(1, "bob")
        house.night()
        self.assertEqual(len(house.lot(1)), 15 * 5 * 4)

    def test_more_than_three_hundred_stands(self):
        house = House(MANY, 3)
        house.come()
        house.come()
        for text in ("ann", "bob"):
            house.send(1, text)
            house.ask(1, text)
        house.night()
        self.assertEqual(len(house.lot(1)), 225)
        house.back()
        house.send(1, "cyd")
        self.assertEqual(len(house.lot(1)), 1)
        self.keeps_still(house, TooMany, "at", 1, house.night)

    def test_too_many_with_the_least_name(self):
        house = too_long(too_long(House(too_long_habits(True), 8), 1), 4)
        self.keeps_still(house, TooMany, "at", 1, house.night)
        # A free name hears nothing, nor does one that nothing was sent of.
        for name in (0, 2, 3, 5, 7):
            self.keeps_still(house, NoRun, "at", name, house.night, of(name, NONE))

    def test_no_run_ahead_of_too_many(self):
        house = too_long(House(too_long_habits(True), 8), 2)
        house.come()
        for name in (0, 1, 3, 7):
            self.keeps_still(house, NoRun, "at", name, house.night, of(name, NONE))
        self.keeps_still(house, NoRun, "at", 2, house.night, of(2, NONE))
        self.keeps_still(house, NoRun, "at", 2, house.night, of(2, NONE) + of(7, NONE))
        self.keeps_still(house, NoRun, "at", 1, house.night, of(1, NONE) + of(2, NONE))

    def test_what_would_be_heard_otherwise_does_not_matter(self):
        # Three words wait, three letters come and may be burnt, one may be told on: seven where nothing is heard.
        habits = several("ann", "bob", "cyd", keep=1, ways=(way("ann", "bob"),))
        habits = Habits(habits.folk, tuple(one[:3] + (2 if one[1] == "house" else 1,) + one[4:] for one in habits.ways))
        house = House(habits, 2)
        house.come()
        house.come()
        for text in ("ann", "bob", "cyd"):
            house.ask(1, text)
        house.night()
        for text in ("ann", "bob", "cyd"):
            house.send(1, text)
        self.assertEqual({len(stand[1]) for stand in house.lot(1)}, {6})
        self.keeps_still(house, TooMany, "at", 1, house.night)
        self.keeps_still(house, NoRun, "at", 0, house.night, of(0, NONE))
        self.keeps_still(house, NoRun, "at", 1, house.night, of(1, BURNT))
        house.night(of(1, NONE))
        self.assertEqual(max(len(stand[1]) for stand in house.lot(1)), 6)


if __name__ == "__main__":
    unittest.main()
