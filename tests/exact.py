"""Lots whose lots met have just as many stands together as may be, and one more."""

from itertools import combinations_with_replacement

from samples import one_folk, way

# What is sent takes three days, so that it only waits and then comes.
SLOW = one_folk("still", 1, out=way("house", "ann", 3, 3))
THINGS = [(0, word, days, 0, False) for word in ("ask", "letter") for days in (0, 1, 2)]
WAITING = sorted(((-1,), tuple(sorted(row))) for many in range(1, 7)
                 for row in combinations_with_replacement(THINGS, many))


def has_room(stand):
    """Whether with an ask sent on each evening there are never more than six things under way."""
    days = [thing[2] for thing in stand[1]]
    return days.count(0) <= 3 and days.count(0) + days.count(1) <= 4 and len(days) <= 5


ROOMY = [stand for stand in WAITING if has_room(stand)]


def ends_of(stands, first, last):
    """The lot of so many first and last ones."""
    return tuple(stands[:first] + stands[len(stands) - last:])


# Together with what comes of them silently, and by asks, they have so many stands; the tests count them plainly.
LATE_400, LATE_401 = ends_of(WAITING, 239, 1), ends_of(WAITING, 239, 2)
ASKS_400, ASKS_401 = ends_of(ROOMY, 178, 2), ends_of(ROOMY, 178, 3)
