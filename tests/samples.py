"""Habits and any things that several tests use."""

from nameagain.habits import Habits


def way(source, target, least=1, most=1, loses=False, twice=False):
    """A way whose fields are plain where nothing else is told."""
    return (source, target, least, most, loses, twice)


def one_folk(kind="saying", keep=None, out=None, home=None, steps=1):
    """Habits of one folk, called ann, to whom the house has a way."""
    return Habits((("ann", kind, keep),), (out or way("house", "ann"), home or way("ann", "house")), steps=steps)


def pair(steps=1, keep=None, told=None, kind="still"):
    """Habits of ann and bob; the house has a way to ann, who has one to bob.

    Ways: 0 house to ann, 1 ann to bob, 2 ann to house, 3 bob to house.
    """
    ways = (way("house", "ann"), told or way("ann", "bob"), way("ann", "house"), way("bob", "house"))
    return Habits((("ann", kind, keep), ("bob", kind, keep)), ways, steps=steps)


def triple(steps=2, loses=False, kind="saying"):
    """Habits of three folk with all twelve ways, each of one to three days."""
    texts = ("ann", "bob", "cyd")
    places = ("house",) + texts
    ways = tuple(way(a, b, 1, 3, loses, a == "house") for a in places for b in places if a != b)
    return Habits(tuple((text, kind, 3) for text in texts), ways, steps=steps)


def several(*texts, kind="saying", keep=1, ways=()):
    """Habits of folk with ways from and to the house of one day each, and these ways besides."""
    ends = tuple(one for text in texts for one in (way("house", text), way(text, "house")))
    return Habits(tuple((text, kind, keep) for text in texts), ends + ways)


def letter(at, days=0, step=0, copy=False):
    """A letter under way on the way of this number."""
    return (at, "letter", days, step, copy)


def ask(at, days=0, copy=False):
    """An ask under way."""
    return (at, "ask", days, 0, copy)


def said(at, word, days=0):
    """A word under way to the house."""
    return (at, word, days, 0, False)


def day(heard=(), letters=(), asks=()):
    """A day of a book."""
    return (heard, letters, asks)


QUIET = day()


def sends(*letters):
    """A day on which nothing is heard and these letters are sent."""
    return day(letters=letters)


def wants(*asks):
    """A day on which nothing is heard and these asks are sent."""
    return day(asks=asks)


def hears(*heard):
    """A day on which this is heard and nothing is done."""
    return day(heard)


def number(habits, source, target):
    """The number of a way, looked up by its ends."""
    return [(one[0], one[1]) for one in habits.ways].index((source, target))


def nested(depth, inner):
    """A thing within so many lists and tuples, by turns."""
    for turn in range(depth):
        inner = [inner] if turn % 2 else (inner,)
    return inner


def any_things():
    """Things of all kinds that may be handed in, none of them of a use."""
    habits = one_folk()
    return [
        None, True, False, 0, 1, -1, 2, 3, 4, 10 ** 79, -10 ** 79, "", "a", "house", "ann", "saying", "z" * 2000,
        "~ \n!", (), [], ((),), [[]], ((), ()), [(), ()], (None,), (True, False), ("a", 1), [1, "a", None, True],
        ((), [], "", None), ((0,), (0,)), ("ann", "ann"), habits, (habits,), [habits, habits], (habits, (), 1),
        nested(10, None), nested(10, habits), nested(9, ("a", 1, None)), (nested(8, 1), nested(8, "a"), 3),
        tuple(range(19000)), ["a"] * 19000, tuple(("a", n, None) for n in range(5000)),
        ((0, "ask", 0, 0, False), "a", (1,)),
    ]


def put(row, at, thing):
    """The tuple with one of its items put otherwise."""
    return row[:at] + (thing,) + row[at + 1:]
