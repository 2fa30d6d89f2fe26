"""Point 2: what is handed in by names, in another row, tells what it tells by places; each default; new lists."""

import inspect
import unittest

from nameagain import alike, asks, days, errors, habits, house, late, left, lots, runs, tables, texts
from nameagain.desk import Desk
from samples import QUIET, letter, one_folk, sends, wants
from test_interface import FUNCTIONS

STILL = one_folk("still", 2)
SAYING = one_folk("saying", 2)
EMPTY, NOTE, SENT = ((-1,), ()), ((0,), ()), ((-1,), (letter(0),))
BARE, LOT = (EMPTY,), (EMPTY, NOTE)
BOOK = (sends("ann"), QUIET, wants("ann"))
TABLE = ((0, 1, ((0, "ann"),)), (2, 1, ()))
PLAN = ((LOT, "ann"),)

# Each function with what it's handed, in the interface's order: what stands behind its * is named.
CALLS = (
    (habits.Habits, (STILL.folk, STILL.ways), {"steps": 2}),
    (days.is_stand, (STILL, NOTE), {}),
    (days.bare, (STILL,), {}),
    (days.mornings, (STILL, SENT), {}),
    (days.evenings, (STILL, NOTE), {"letters": ("ann",), "asks": ("ann",)}),
    (runs.look_book, (STILL, BOOK), {}),
    (runs.fails, (STILL, BOOK, (SENT, NOTE, EMPTY)), {}),
    (runs.how_many, (STILL, BOOK), {}),
    (runs.run_to, (STILL, BOOK[:1], SENT), {}),
    (lots.is_lot, (STILL, LOT), {}),
    (lots.lot_of, (STILL, BOOK), {}),
    (lots.hearings, (SAYING, LOT), {}),
    (lots.next_lot, (STILL, LOT, ()), {"letters": ("ann",), "asks": ("ann",)}),
    (lots.may_be, (STILL, LOT), {}),
    (lots.must_be, (STILL, LOT), {}),
    (lots.heaps, (STILL,), {}),
    (left.is_clear, (STILL, BOOK), {}),
    (left.paper, (STILL, BOOK[:1]), {}),
    (left.shows, (STILL, BOOK[:1], ("left", (SENT,))), {}),
    (house.House, (STILL, 3), {}),
    (late.late, (STILL, LOT), {}),
    (late.late_paper, (STILL, LOT), {}),
    (late.worst, (STILL, LOT), {}),
    (late.shows_late, (STILL, BARE, ("by", ((BARE, 0),), ())), {}),
    (asks.soonest, (STILL, LOT), {}),
    (asks.fewest_asks, (STILL, LOT), {}),
    (asks.plan, (STILL, LOT), {"by": "asks"}),
    (asks.net, (STILL, LOT), {}),
    (asks.keeps, (STILL, LOT, PLAN), {}),
    (asks.is_net, (STILL, LOT, (LOT,)), {}),
    (tables.look_table, (STILL, TABLE), {}),
    (tables.hold, (STILL, TABLE[0]), {}),
    (tables.fewest, (STILL, TABLE), {}),
    (tables.fewest_paper, (STILL, TABLE), {}),
    (tables.shows_fewest, (STILL, TABLE, (2, (0, 1))), {}),
    (alike.parting, (STILL, BARE, LOT), {}),
    (alike.parts, (STILL, BARE, LOT, ()), {}),
    (texts.show_habits, (STILL,), {}),
    (texts.read_habits, (texts.show_habits(STILL),), {}),
    (texts.show_heard, ((("ann", "none"),),), {}),
    (texts.show_book, (STILL, BOOK), {}),
    (texts.read_book, (STILL, texts.show_book(STILL, BOOK)), {}),
)
# Methods, behind some deeds, with what they're handed.
DEEDS = (
    ("come", (), {"letters": ("ann",)}), ("go", (0,), {}), ("send", (1, "ann"), {}), ("ask", (0, "ann"), {}),
    ("night", ((),), {}), ("back", (), {}), ("day", (), {}), ("names", (), {}), ("lot", (1,), {}), ("twin", (), {}),
)


def backwards(function, places, named):
    """All that is handed in by its name, the last one first."""
    names = list(inspect.signature(function).parameters)[:len(places)]
    both = list(zip(names, places)) + list(named.items())
    return dict(both[::-1])


def busy_house():
    made = house.House(SAYING, 3)
    made.come(letters=("ann",))
    made.come()
    return made


class ByNames(unittest.TestCase):
    def test_all_functions_are_here(self):
        called = {function for function, _, _ in CALLS}
        for module, told in FUNCTIONS.items():
            for name in told:
                self.assertIn(getattr(module, name), called)

    def test_functions(self):
        for function, places, named in CALLS:
            told = function(*places, **named)
            self.assertEqual(function(**backwards(function, places, named)), told, function)
            some = backwards(function, places, named)
            first = list(inspect.signature(function).parameters)[0]
            self.assertEqual(function(some.pop(first), **some), told, function)

    def test_methods(self):
        for name, places, named in DEEDS:
            one, other = busy_house(), busy_house()
            told = getattr(one, name)(*places, **named)
            self.assertEqual(getattr(other, name)(**backwards(getattr(other, name), places, named)), told, name)
            self.assertTrue(one == other)
        text = texts.show_habits(STILL)
        self.assertEqual(Desk(many=2, text=text).say(row="names"), "free free")

    def test_defaults(self):
        self.assertEqual(habits.Habits(STILL.folk, STILL.ways), habits.Habits(STILL.folk, STILL.ways, steps=1))
        self.assertEqual(days.evenings(STILL, SENT), days.evenings(STILL, SENT, letters=(), asks=()))
        self.assertEqual(lots.next_lot(STILL, LOT), lots.next_lot(STILL, LOT, (), letters=(), asks=()))
        self.assertEqual(house.House(STILL), house.House(STILL, 4))
        self.assertEqual(asks.plan(STILL, (SENT,)), asks.plan(STILL, (SENT,), by="days"))
        self.assertNotEqual(asks.plan(STILL, (SENT,)), asks.plan(STILL, (SENT,), by="asks"))
        self.assertEqual(Desk(texts.show_habits(STILL)).say("names"), "free free free free")
        one, other = busy_house(), busy_house()
        self.assertEqual((one.come(), one.night()), (other.come(letters=()), other.night(())))
        self.assertTrue(one == other)

    def test_behind_a_star_by_names_alone(self):
        for function, places, named in CALLS:
            if named:
                with self.assertRaises(TypeError):
                    function(*places, *named.values())
        with self.assertRaises(TypeError):
            busy_house().come(("ann",))

    def check_new(self, told, *places, **named):
        """What is done to a told list changes no later answer."""
        first = told(*places, **named)
        if isinstance(first, list):
            kept = list(first)
            first.append("more")
            first.reverse()
            again = told(*places, **named)
            self.assertEqual(again, kept)
            self.assertIsNot(again, first)

    def test_new_lists(self):
        for function, places, named in CALLS:
            self.check_new(function, *places, **named)
        made = busy_house()
        self.check_new(made.names)
        self.check_new(house.House(SAYING).night)

    def test_nothing_told_but_by_the_interface_is_a_list(self):
        lists = {function for function, places, named in CALLS if isinstance(function(*places, **named), list)}
        self.assertEqual(lists, {days.mornings, days.evenings, lots.hearings, lots.may_be, lots.must_be, lots.heaps})

    def test_errors_by_names(self):
        for name, field in (("NoHabits", "where"), ("NoTable", "at"), ("NoText", "line"), ("NoName", "name"),
                            ("NoWay", "text"), ("Again", "text"), ("NotHeld", "name")):
            self.assertEqual(getattr(getattr(errors, name)(**{field: 3}), field), 3)


if __name__ == "__main__":
    unittest.main()
