"""The errors of the program: one class for each kind of refusal."""


class AgainError(ValueError):
    """What is handed in is not of the form that the document tells."""


class NoHabits(AgainError):
    """No habits: where is the argument that isn't as told."""

    def __init__(self, where):
        self.where = where


class NoStand(AgainError):
    """No stand of the habits."""


class NoDeeds(AgainError):
    """No letters, or no asks, that the house can send."""


class NoBook(AgainError):
    """No book of the habits: at is the first day that is none, or -1."""

    def __init__(self, at):
        self.at = at


class NoLot(AgainError):
    """No lot of the habits."""


class NoHeard(AgainError):
    """Nothing that can be heard of the habits' folk."""


class NoTable(AgainError):
    """No timetable: at is the first thing that is none, or -1."""

    def __init__(self, at):
        self.at = at


class NoText(AgainError):
    """No text of habits or of a book: line is the first that is none, or 0."""

    def __init__(self, line):
        self.line = line


class NoSaying(AgainError):
    """Nothing that a desk can be told."""


class NoName(LookupError):
    """None of a house's names."""

    def __init__(self, name):
        self.name = name


class NoWay(LookupError):
    """No text of a folk to whom the house has a way."""

    def __init__(self, text):
        self.text = text


class NoRun(LookupError):
    """Nothing can have gone so: at is the day, or the name, where it fails."""

    def __init__(self, at):
        self.at = at


class TooMany(OverflowError):
    """More stands, or more things under way, than are gone through."""

    def __init__(self, at):
        self.at = at


class NotHeld(RuntimeError):
    """The name isn't held by a thing, as the deed asks for."""

    def __init__(self, name):
        self.name = name


class Again(RuntimeError):
    """The same was sent to this folk today already."""

    def __init__(self, text):
        self.text = text


class Full(RuntimeError):
    """No name is free."""


class Nothing(RuntimeError):
    """There is no deed to be taken back."""
