"""The interface: what exists, where, with which arguments and defaults."""

import inspect
import unittest

from nameagain import alike, asks, days, desk, errors, habits, house, late, left, lots, runs, tables, texts

FUNCTIONS = {
    days: {
        "is_stand": "(habits, thing)",
        "bare": "(habits)",
        "mornings": "(habits, stand)",
        "evenings": "(habits, stand, *, letters=(), asks=())",
    },
    runs: {
        "look_book": "(habits, book)",
        "fails": "(habits, book, run)",
        "how_many": "(habits, book)",
        "run_to": "(habits, book, stand)",
    },
    lots: {
        "is_lot": "(habits, thing)",
        "lot_of": "(habits, book)",
        "hearings": "(habits, lot)",
        "next_lot": "(habits, lot, heard=(), *, letters=(), asks=())",
        "may_be": "(habits, lot)",
        "must_be": "(habits, lot)",
        "heaps": "(habits)",
    },
    left: {
        "is_clear": "(habits, book)",
        "paper": "(habits, book)",
        "shows": "(habits, book, paper)",
    },
    late: {
        "late": "(habits, lot)",
        "late_paper": "(habits, lot)",
        "worst": "(habits, lot)",
        "shows_late": "(habits, lot, paper)",
    },
    asks: {
        "soonest": "(habits, lot)",
        "fewest_asks": "(habits, lot)",
        "plan": "(habits, lot, *, by='days')",
        "net": "(habits, lot)",
        "keeps": "(habits, lot, plan)",
        "is_net": "(habits, lot, net)",
    },
    tables: {
        "look_table": "(habits, table)",
        "hold": "(habits, thing)",
        "fewest": "(habits, table)",
        "fewest_paper": "(habits, table)",
        "shows_fewest": "(habits, table, paper)",
    },
    alike: {
        "parting": "(habits, one, other)",
        "parts": "(habits, one, other, row)",
    },
    texts: {
        "show_habits": "(habits)",
        "read_habits": "(text)",
        "show_heard": "(heard)",
        "show_book": "(habits, book)",
        "read_book": "(habits, text)",
    },
}

CLASSES = {
    habits.Habits: {
        "__init__": "(self, folk, ways, *, steps=1)",
        "__eq__": "(self, other)",
        "__len__": "(self)",
    },
    house.House: {
        "__init__": "(self, habits, many=4)",
        "__eq__": "(self, other)",
        "__len__": "(self)",
        "come": "(self, *, letters=())",
        "go": "(self, name)",
        "send": "(self, name, text)",
        "ask": "(self, name, text)",
        "back": "(self)",
        "night": "(self, heard=())",
        "day": "(self)",
        "names": "(self)",
        "lot": "(self, name)",
        "twin": "(self)",
    },
    desk.Desk: {
        "__init__": "(self, text, many=4)",
        "say": "(self, row)",
    },
}


class Interface(unittest.TestCase):
    def test_functions(self):
        for module, functions in FUNCTIONS.items():
            for name, arguments in functions.items():
                function = getattr(module, name)
                self.assertEqual(str(inspect.signature(function)), arguments)
                self.assertEqual(function.__module__, module.__name__)

    def test_classes(self):
        for made, methods in CLASSES.items():
            self.assertEqual(made.__module__, f"nameagain.{made.__name__.lower()}")
            for name, arguments in methods.items():
                self.assertIn(name, vars(made))
                self.assertEqual(str(inspect.signature(getattr(made, name))), arguments)

    def test_fields_of_errors(self):
        for name, field in (("NoHabits", "where"), ("NoBook", "at"), ("NoTable", "at"), ("NoText", "line"),
                            ("NoName", "name"), ("NoWay", "text"), ("NoRun", "at"), ("TooMany", "at"),
                            ("NotHeld", "name"), ("Again", "text")):
            self.assertEqual(str(inspect.signature(getattr(errors, name))), f"({field})")


if __name__ == "__main__":
    unittest.main()
