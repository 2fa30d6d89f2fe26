"""The interface as far as it has landed: what exists, where, with which arguments and defaults."""

import inspect
import unittest

from nameagain import days, errors, habits, left, lots, runs

FUNCTIONS = {
    days: {
        "is_stand": "(habits, thing)",
        "bare": "(habits)",
        "mornings": "(habits, stand)",
        "evenings": "(habits, stand, *, letters=(), asks=())",
    },
    runs: {
        "look_book": "(habits, book)",
        "fails": "(habits, book, run)",
        "how_many": "(habits, book)",
        "run_to": "(habits, book, stand)",
    },
    lots: {
        "is_lot": "(habits, thing)",
        "lot_of": "(habits, book)",
        "hearings": "(habits, lot)",
        "next_lot": "(habits, lot, heard=(), *, letters=(), asks=())",
        "may_be": "(habits, lot)",
        "must_be": "(habits, lot)",
        "heaps": "(habits)",
    },
    left: {
        "is_clear": "(habits, book)",
        "paper": "(habits, book)",
        "shows": "(habits, book, paper)",
    },
}


class Interface(unittest.TestCase):
    def test_functions(self):
        for module, functions in FUNCTIONS.items():
            for name, arguments in functions.items():
                function = getattr(module, name)
                self.assertEqual(str(inspect.signature(function)), arguments)
                self.assertEqual(function.__module__, module.__name__)

    def test_habits(self):
        self.assertEqual(str(inspect.signature(habits.Habits)), "(folk, ways, *, steps=1)")
        self.assertEqual(habits.Habits.__module__, "nameagain.habits")
        self.assertLessEqual({"__init__", "__eq__", "__len__"}, set(vars(habits.Habits)))

    def test_fields_of_errors(self):
        for name, field in (("NoHabits", "where"), ("NoBook", "at"), ("NoTable", "at"), ("NoText", "line"),
                            ("NoName", "name"), ("NoWay", "text"), ("NoRun", "at"), ("TooMany", "at"),
                            ("NotHeld", "name"), ("Again", "text")):
            self.assertEqual(str(inspect.signature(getattr(errors, name))), f"({field})")


if __name__ == "__main__":
    unittest.main()
