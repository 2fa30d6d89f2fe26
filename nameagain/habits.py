"""Habits: who the folk are, and which ways lead between them and the house."""

from nameagain.errors import NoHabits
from nameagain.kinds import is_between, is_truth, is_tuple_of

HOUSE = "house"
SAYING = "saying"
STILL = "still"
LETTERS = "abcdefghijklmnopqrstuvwxyz"
LONGEST_TEXT = 8
MOST_FOLK = 3
MOST_KEEP = 3
MOST_DAYS = 3
MOST_STEPS = 2


def is_folk_text(thing):
    """Whether a folk may be called by a thing."""
    if not isinstance(thing, str) or not 1 <= len(thing) <= LONGEST_TEXT:
        return False
    return thing != HOUSE and all([sign in LETTERS for sign in thing])


def is_folk(thing):
    """Whether a thing is a folk."""
    if not is_tuple_of(thing, 3):
        return False
    text, kind, keep = thing
    if not is_folk_text(text) or kind not in (SAYING, STILL):
        return False
    return keep is None or is_between(keep, 1, MOST_KEEP)


def are_folk(thing):
    """Whether a thing is the folk of habits."""
    if not isinstance(thing, tuple) or not 1 <= len(thing) <= MOST_FOLK:
        return False
    if not all([is_folk(one) for one in thing]):
        return False
    return len({text for text, kind, keep in thing}) == len(thing)


def is_way(texts, thing):
    """Whether a thing is a way between the house and folk of these texts."""
    if not is_tuple_of(thing, 6):
        return False
    source, target, least, most, loses, twice = thing
    places = (HOUSE, *texts)
    if source not in places or target not in places or source == target:
        return False
    if not is_between(most, 1, MOST_DAYS) or not is_between(least, 1, most):
        return False
    return is_truth(loses) and is_truth(twice) and (source == HOUSE or not twice)


def are_ways(texts, thing):
    """Whether a thing is the ways of habits with folk of these texts."""
    if not isinstance(thing, tuple) or not all([is_way(texts, one) for one in thing]):
        return False
    ends = [(way[0], way[1]) for way in thing]
    if len(set(ends)) != len(ends):
        return False
    return all([(text, HOUSE) in ends for text in texts])


class Habits:
    """What folk there are, the ways, and how often a letter may be told on."""

    def __init__(self, folk, ways, *, steps=1):
        if not are_folk(folk):
            raise NoHabits("folk")
        if not are_ways([text for text, kind, keep in folk], ways):
            raise NoHabits("ways")
        if not is_between(steps, 0, MOST_STEPS):
            raise NoHabits("steps")
        self.folk = folk
        self.ways = ways
        self.steps = steps

    def __eq__(self, other):
        return (isinstance(other, Habits) and self.folk == other.folk
                and self.ways == other.ways and self.steps == other.steps)

    def __len__(self):
        return len(self.folk)


def way_number(habits, source, target):
    """The number of the way from source to target, or None."""
    for number, way in enumerate(habits.ways):
        if (way[0], way[1]) == (source, target):
            return number
    return None


def is_told_way(habits, number):
    """Whether a way leads between folk, so that letters are told on by it."""
    source, target = habits.ways[number][:2]
    return source != HOUSE and target != HOUSE


def sent_to(habits):
    """The texts of the folk to whom the house has a way, as the ways stand."""
    return [way[1] for way in habits.ways if way[0] == HOUSE]


def is_saying(habits, text):
    """Whether the folk of this text is a saying one."""
    return (text, SAYING) in [(name, kind) for name, kind, keep in habits.folk]
