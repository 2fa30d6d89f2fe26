"""Lots whose lots met have just as many stands together as may be, and one more."""

from itertools import combinations_with_replacement, product

from nameagain.habits import Habits
from samples import letter, one_folk, way

# What is sent takes three days, so that it only waits and then comes.
SLOW = one_folk("still", 1, out=way("house", "ann", 3, 3))
THINGS = [(0, word, days, 0, False) for word in ("ask", "letter") for days in (0, 1, 2)]
WAITING = sorted(((-1,), tuple(sorted(row))) for many in range(1, 7)
                 for row in combinations_with_replacement(THINGS, many))


def has_room(stand):
    """Whether with an ask sent on each evening there are never more than six things under way."""
    days = [thing[2] for thing in stand[1]]
    return days.count(0) <= 3 and days.count(0) + days.count(1) <= 4 and len(days) <= 5


ROOMY = [stand for stand in WAITING if has_room(stand)]


def ends_of(stands, first, last):
    """The lot of so many first and last ones."""
    return tuple(stands[:first] + stands[len(stands) - last:])


# Together with what comes of them silently, and by asks, they have so many stands; the tests count them plainly.
LATE_400, LATE_401 = ends_of(WAITING, 239, 1), ends_of(WAITING, 239, 2)
ASKS_400, ASKS_401 = ends_of(ROOMY, 178, 2), ends_of(ROOMY, 178, 3)

# Letters go round between three folk to whom the house has no way; they aren't told on.
ROUND = Habits(
    tuple((text, "still", 1) for text in ("ann", "bob", "cyd")),
    (way("ann", "bob", 3, 3), way("bob", "cyd", 3, 3), way("cyd", "ann", 3, 3))
    + tuple(way(text, "house") for text in ("ann", "bob", "cyd")))
LETTERS = sorted(((ann, bob, -1), tuple(letter(at, days, 1) for at, days in enumerate(row) if days >= 0))
                 for row in product((-1, 0, 1, 2), repeat=3) for ann in (-1, 0) for bob in (-1, 0))[1:]

# The one lot twice, and both lots together, with all pairs that come of them.
PAIR_400, PAIR_MORE = ends_of(LETTERS, 100, 0), ends_of(LETTERS, 101, 0)

# An ask may be lost, so that behind it there are twice as many stands: just 300, and more.
NOTED = Habits(
    tuple((text, "still", 3) for text in ("ann", "bob", "cyd")),
    (way("house", "ann", 1, 1, True),) + tuple(way(text, "house") for text in ("ann", "bob", "cyd")))
NOTES = sorted((notes, (letter(0),) * many) for notes in product((-1, 0, 1, 2), repeat=3) for many in (0, 1, 2))[1:]
DEED_300, DEED_MORE = ends_of(NOTES, 150, 0), ends_of(NOTES, 151, 0)

# Six letters, each of which may come, leave a copy or go on: of one stand come more than 300, and few of these.
COPIES = Habits(
    (("ann", "still", 1), ("bob", "still", 1)),
    (way("house", "ann", 1, 2, False, True), way("house", "bob", 1, 2, False, True), way("ann", "house"),
     way("bob", "house")))
CROWD = (((-1, -1), (letter(0),) * 3 + (letter(1),) * 3),)
