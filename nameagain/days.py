"""A day: what may be about of a name, and what may come of it."""

from nameagain.errors import NoDeeds, NoStand
from nameagain.habits import HOUSE, is_saying, is_told_way, sent_to
from nameagain.kinds import is_between, is_truth, is_tuple_of, rises
from nameagain.nights import ASK, BURNT, LETTER, MOST_UNDER_WAY, NO_NOTE, NONE, deed_rows, evenings_behind, nights


def words_of(habits, number):
    """The words that may go about on a way."""
    source, target = habits.ways[number][:2]
    if source == HOUSE:
        return (LETTER, ASK)
    if target != HOUSE:
        return (LETTER,)
    return (BURNT, NONE) if is_saying(habits, source) else ()


def is_step(habits, number, thing):
    """Whether a thing is a step of what goes about on a way."""
    if is_told_way(habits, number):
        return is_between(thing, 1, habits.steps)
    return is_between(thing, 0, 0)


def is_under_way(habits, thing):
    """Whether a thing is a thing under way."""
    if not is_tuple_of(thing, 5):
        return False
    way, word, days, step, copy = thing
    if not is_between(way, 0, len(habits.ways) - 1):
        return False
    least, most, loses, twice = habits.ways[way][2:]
    if word not in words_of(habits, way) or not is_step(habits, way, step):
        return False
    if not is_between(days, 0, most - 1) or not is_truth(copy):
        return False
    return not copy or (twice and days >= least)


def are_under_way(habits, thing):
    """Whether a thing is all that is under way in a stand."""
    if not isinstance(thing, tuple) or not all([is_under_way(habits, one) for one in thing]):
        return False
    if list(thing) != sorted(thing):
        return False
    told = [one[0] for one in thing if is_told_way(habits, one[0])]
    return len(set(told)) == len(told)


def is_note(keep, thing):
    """Whether a thing is the note of a folk that keeps notes so long."""
    return is_between(thing, NO_NOTE, 0 if keep is None else keep - 1)


def are_notes(habits, thing):
    """Whether a thing is the notes of a stand."""
    if not is_tuple_of(thing, len(habits)):
        return False
    return all([is_note(folk[2], note) for folk, note in zip(habits.folk, thing)])


def is_stand(habits, thing):
    """Whether any thing is a stand."""
    if not is_tuple_of(thing, 2):
        return False
    notes, under = thing
    return are_notes(habits, notes) and are_under_way(habits, under)


def is_short_stand(habits, thing):
    """Whether a thing is a stand with no more under way than runs and lots let be."""
    return is_stand(habits, thing) and len(thing[1]) <= MOST_UNDER_WAY


def bare(habits):
    """The stand without a note and without anything under way."""
    return ((NO_NOTE,) * len(habits), ())


def look_stand(habits, stand):
    """Refuse what is no stand."""
    if not is_stand(habits, stand):
        raise NoStand("no stand of these habits")


def are_deeds(habits, thing):
    """Whether a thing is a rising tuple of texts of folk to whom the house has a way."""
    texts = sent_to(habits)
    return isinstance(thing, tuple) and all([text in texts for text in thing]) and rises(thing)


def look_deeds(habits, letters, asks):
    """Refuse letters and asks that the house can't send."""
    if not are_deeds(habits, letters) or not are_deeds(habits, asks):
        raise NoDeeds("letters and asks are rising tuples of texts of folk to whom the house has a way")


def is_heard_word(habits, thing):
    """Whether a thing is a word with the text of the saying folk that says it."""
    return is_tuple_of(thing, 2) and is_saying(habits, thing[0]) and thing[1] in (BURNT, NONE)


def are_heard(habits, thing):
    """Whether a thing may be what the house hears of saying folk on a day."""
    if not isinstance(thing, tuple) or not all([is_heard_word(habits, word) for word in thing]):
        return False
    return list(thing) == sorted(thing)


def mornings(habits, stand):
    """All tuples (heard, stand) that may come of a stand over a night, sorted, each once."""
    look_stand(habits, stand)
    return nights(habits, stand)


def evenings(habits, stand, *, letters=(), asks=()):
    """All stands that may come of a stand by what the house sends, sorted, each once."""
    look_stand(habits, stand)
    look_deeds(habits, letters, asks)
    return sorted(evenings_behind(stand, deed_rows(habits, letters, asks)))
