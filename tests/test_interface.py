"""The interface as far as it has landed: what exists, where, with which arguments and defaults."""

import inspect
import unittest

from nameagain import days, errors, habits

FUNCTIONS = {
    "is_stand": "(habits, thing)",
    "bare": "(habits)",
    "mornings": "(habits, stand)",
    "evenings": "(habits, stand, *, letters=(), asks=())",
}


class Interface(unittest.TestCase):
    def test_functions_of_days(self):
        for name, arguments in FUNCTIONS.items():
            function = getattr(days, name)
            self.assertEqual(str(inspect.signature(function)), arguments)
            self.assertEqual(function.__module__, "nameagain.days")

    def test_habits(self):
        self.assertEqual(str(inspect.signature(habits.Habits)), "(folk, ways, *, steps=1)")
        self.assertEqual(habits.Habits.__module__, "nameagain.habits")
        self.assertLessEqual({"__init__", "__eq__", "__len__"}, set(vars(habits.Habits)))

    def test_fields_of_errors(self):
        for name, field in (("NoHabits", "where"), ("NoBook", "at"), ("NoTable", "at"), ("NoText", "line"),
                            ("NoName", "name"), ("NoWay", "text"), ("NoRun", "at"), ("TooMany", "at"),
                            ("NotHeld", "name"), ("Again", "text")):
            self.assertEqual(str(inspect.signature(getattr(errors, name))), f"({field})")


if __name__ == "__main__":
    unittest.main()
