"""What may come of a stand over a night, and of what is sent.

Stands are taken as right here: who hands them in has looked at them.
"""

from nameagain.errors import TooMany
from nameagain.habits import HOUSE, SAYING, is_told_way, way_number

ASK = "ask"
BURNT = "burnt"
LETTER = "letter"
NONE = "none"
NO_NOTE = -1
MOST_UNDER_WAY = 6


def refuse_long(many):
    """Refuse where so many things would be under way at once."""
    if many > MOST_UNDER_WAY:
        raise TooMany(0)


def refuse_many(unders):
    """Refuse where one of these rows of things under way is too long."""
    refuse_long(max([len(under) for under in unders]))


def put_together(rows, choices):
    """All rows with a choice put to each, sorted in themselves, each once."""
    return sorted({tuple(sorted(row + choice)) for row in rows for choice in choices})


def sendings(habits, things):
    """All rows of things that may be under way when these are sent."""
    rows = [()]
    for thing in things:
        loses = habits.ways[thing[0]][4]
        rows = put_together(rows, [(thing,), ()] if loses else [(thing,)])
    return rows


def deed_rows(habits, letters, asks):
    """All rows of things that may be under way of what the house sends."""
    deeds = [(LETTER, text) for text in letters] + [(ASK, text) for text in asks]
    return sendings(habits, [(way_number(habits, HOUSE, text), word, 0, 0, False) for word, text in deeds])


def thing_choices(habits, thing):
    """What a night may make of a thing: pairs of what comes and what is left."""
    way, word, days, step, copy = thing
    least, most, loses, twice = habits.ways[way][2:]
    older = days + 1
    comes = ((way, word, step),)
    goes_on = ((way, word, older, step, copy),)
    if older < least:
        return [((), goes_on)]
    if older >= most:
        return [(comes, ())]
    choices = [((), goes_on), (comes, ())]
    if twice and not copy:
        choices.append((comes, ((way, word, older, step, True),)))
    return choices


def comings(habits, under):
    """All pairs (what came, what is left under way) of a night, each once."""
    pairs = [((), ())]
    for thing in under:
        choices = thing_choices(habits, thing)
        pairs = sorted({(tuple(sorted(came + more)), tuple(sorted(left + rest)))
                        for came, left in pairs for more, rest in choices})
        # What is left stays under way, so a row that is too long now ends as a stand that is.
        refuse_many([left for came, left in pairs])
    return pairs


def heard_of(habits, came):
    """What the house heard, of what came."""
    words = [(habits.ways[way][0], word) for way, word, step in came if habits.ways[way][1] == HOUSE]
    return tuple(sorted(words))


def asked(note, asks):
    """The note behind so many asks, and the words that answer them."""
    if asks == 0 or note == NO_NOTE:
        return note, [NONE] * asks
    return NO_NOTE, [BURNT] + [NONE] * (asks - 1)


def note_ends(note, keep, fresh):
    """Pairs (note, words): what a note may be in the evening, and what is said of it."""
    if fresh:
        older = 0
    elif note == NO_NOTE:
        return [(NO_NOTE, [])]
    else:
        older = 0 if keep is None else note + 1
    ends = [(NO_NOTE, [BURNT])]
    if keep is None or older < keep:
        ends.append((older, []))
    return ends


def told_on(habits, text, steps, left):
    """All rows of letters that the folk may tell on where letters of these steps came."""
    busy = [thing[0] for thing in left]
    rows = [()]
    for number, way in enumerate(habits.ways):
        if way[0] == text and is_told_way(habits, number) and number not in busy:
            letters = [((number, LETTER, 0, step + 1, False),) for step in steps if step < habits.steps]
            # A letter that is lost leaves what telling nothing leaves.
            rows = put_together(rows, [(), *letters])
    return rows


def folk_days(habits, number, note, came, left):
    """Pairs (note, things): all that a folk's day may leave, what it sent with it."""
    text, kind, keep = habits.folk[number]
    here = [(word, step) for way, word, step in came if habits.ways[way][1] == text]
    steps = [step for word, step in here if word == LETTER]
    behind, answers = asked(note, len(here) - len(steps))
    home = way_number(habits, text, HOUSE)
    told = told_on(habits, text, steps, left)
    days = []
    for end, words in note_ends(behind, keep, len(steps) > 0):
        said = answers + words if kind == SAYING else []
        sent = sendings(habits, [(home, word, 0, 0, False) for word in said])
        days.extend([(end, row) for row in put_together(told, sent)])
    return days


def all_folk_days(habits, notes, came, left):
    """What each folk's day may leave, a list for each; refused where all of it is too much."""
    days = [folk_days(habits, number, note, came, left) for number, note in enumerate(notes)]
    # What one folk does hinders no other, so the longest rows of all may well meet.
    refuse_long(len(left) + sum([max([len(row) for end, row in rows]) for rows in days]))
    return days


def put_days(days, left):
    """All stands that these days of all folk make with what is left."""
    stands = [((), left)]
    for day in days:
        stands = [(ends + (end,), under + row) for ends, under in stands for end, row in day]
    return sorted([(ends, tuple(sorted(under))) for ends, under in stands])


def stands_behind(habits, notes, came, left):
    """All stands of the evening, the house's deeds ahead, of what came and what is left."""
    return put_days(all_folk_days(habits, notes, came, left), left)


def evenings_behind(stand, rows):
    """The stands of the evening, where one of these rows of the house's things is put to a stand."""
    notes, under = stand
    refuse_many([under + row for row in rows])
    return [(notes, tuple(sorted(under + row))) for row in rows]


def nights(habits, stand):
    """All tuples (heard, stand) that may come of a stand over a night, sorted, each once."""
    notes, under = stand
    return sorted({(heard_of(habits, came), behind) for came, left in comings(habits, under)
                   for behind in stands_behind(habits, notes, came, left)})
