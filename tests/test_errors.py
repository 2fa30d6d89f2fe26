"""The errors: what each is made of, its field, and under what it stands."""

import unittest

from nameagain import errors
from samples import any_things

AGAIN = ("NoHabits", "NoStand", "NoDeeds", "NoBook", "NoLot", "NoHeard", "NoTable", "NoText", "NoSaying")
STRAIGHT = {
    "AgainError": ValueError, "NoName": LookupError, "NoWay": LookupError, "NoRun": LookupError,
    "TooMany": OverflowError, "NotHeld": RuntimeError, "Again": RuntimeError, "Full": RuntimeError,
    "Nothing": RuntimeError,
}
FIELDS = {
    "NoHabits": "where", "NoBook": "at", "NoTable": "at", "NoText": "line", "NoName": "name", "NoWay": "text",
    "NoRun": "at", "TooMany": "at", "NotHeld": "name", "Again": "text",
}
ALL = AGAIN + tuple(STRAIGHT)


def made(name):
    """An error of this class."""
    kind = getattr(errors, name)
    return kind(0) if name in FIELDS else kind()


class Errors(unittest.TestCase):
    def test_fields_by_place_and_by_name(self):
        for name, field in FIELDS.items():
            kind = getattr(errors, name)
            for thing in ["folk", 3, -1] + any_things():
                for error in (kind(thing), kind(**{field: thing})):
                    self.assertIs(getattr(error, field), thing)

    def test_made_of_the_field_alone(self):
        for name, field in FIELDS.items():
            kind = getattr(errors, name)
            with self.assertRaises(TypeError):
                kind()
            with self.assertRaises(TypeError):
                kind(1, 2)
            with self.assertRaises(TypeError):
                kind(**{field + "s": 1})

    def test_without_a_field(self):
        for name in ALL:
            if name not in FIELDS:
                kind = getattr(errors, name)
                self.assertEqual(kind().args, ())
                self.assertEqual(str(kind("no such thing")), "no such thing")

    def test_straight_under(self):
        for name in AGAIN:
            self.assertEqual(getattr(errors, name).__bases__, (errors.AgainError,), name)
        for name, base in STRAIGHT.items():
            self.assertEqual(getattr(errors, name).__bases__, (base,), name)

    def test_none_under_another(self):
        for name in ALL:
            for other in ALL:
                if name != other:
                    under = other == "AgainError" and name in AGAIN
                    self.assertEqual(isinstance(made(name), getattr(errors, other)), under, (name, other))

    def test_not_under_other_errors(self):
        for name in ALL:
            error = made(name)
            self.assertEqual(isinstance(error, ValueError), name in AGAIN or name == "AgainError")
            self.assertEqual(isinstance(error, LookupError), name in ("NoName", "NoWay", "NoRun"))
            self.assertEqual(isinstance(error, ArithmeticError), name == "TooMany")
            self.assertEqual(isinstance(error, RuntimeError), name in ("NotHeld", "Again", "Full", "Nothing"))
            self.assertNotIsInstance(error, (KeyError, IndexError))

    def test_defined_there(self):
        for name in ALL:
            self.assertEqual(getattr(errors, name).__module__, "nameagain.errors")


if __name__ == "__main__":
    unittest.main()
