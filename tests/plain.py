"""The night of point 8 gone through plainly, by every choice there is: what the program is checked against."""

from itertools import product


def fates(habits, thing):
    """What may become of a thing over a night: words that tell it."""
    way, _, days, _, copy = thing
    _, _, least, most, _, twice = habits.ways[way]
    if days + 1 < least:
        return ["on"]
    if days + 1 == most:
        return ["comes"]
    return ["on", "comes", "both"] if twice and not copy else ["on", "comes"]


def lost_rows(habits, things):
    """Each row of what's left of the things when some are lost."""
    for kept in product(*[[True, False] if habits.ways[thing[0]][4] else [True] for thing in things]):
        yield [thing for thing, stays in zip(things, kept) if stays]


def told_choices(habits, came, left):
    """For each way between folk: None, or each letter that may be told on by it."""
    taken = [thing[0] for thing in left]
    choices = []
    for number, (source, target, *_) in enumerate(habits.ways):
        options = [None]
        if "house" not in (source, target) and number not in taken:
            for thing in came:
                if thing[1] == "letter" and habits.ways[thing[0]][1] == source and thing[3] + 1 <= habits.steps:
                    options.append((number, "letter", 0, thing[3] + 1, False))
        choices.append(options)
    return choices


def day_of_folk(habits, number, note, came, burns):
    """The note of a folk in the evening and its words; None where it can't be so."""
    text, kind, keep = habits.folk[number]
    here = [thing[1] for thing in came if habits.ways[thing[0]][1] == text]
    said = []
    for _ in range(here.count("ask")):
        said.append("none" if note == -1 else "burnt")
        note = -1
    if "letter" in here:
        note = 0
    elif note != -1 and keep is not None:
        note += 1
    if note == -1 and burns or note != -1 and note == keep and not burns:
        return None
    if burns:
        said.append("burnt")
        note = -1
    return note, said if kind == "saying" else []


def plain_mornings(habits, stand):
    """All (heard, stand), as a sorted list; nothing is refused."""
    notes, under = stand
    found = set()
    homes = {way[0]: number for number, way in enumerate(habits.ways) if way[1] == "house"}
    for fate in product(*[fates(habits, thing) for thing in under]):
        aged = [(way, word, days + 1, step, copy) for way, word, days, step, copy in under]
        came = [thing for thing, word in zip(aged, fate) if word != "on"]
        left = [thing for thing, word in zip(aged, fate) if word == "on"]
        left += [thing[:4] + (True,) for thing, word in zip(aged, fate) if word == "both"]
        heard = [(habits.ways[thing[0]][0], thing[1]) for thing in came if habits.ways[thing[0]][1] == "house"]
        for burns in product([False, True], repeat=len(notes)):
            ends = [day_of_folk(habits, n, notes[n], came, burns[n]) for n in range(len(notes))]
            if None in ends:
                continue
            said = [(homes[habits.folk[n][0]], word, 0, 0, False) for n in range(len(ends)) for word in ends[n][1]]
            for told in product(*told_choices(habits, came, left)):
                letters = [letter for letter in told if letter is not None]
                for kept in lost_rows(habits, said + letters):
                    behind = (tuple(end[0] for end in ends), tuple(sorted(left + kept)))
                    found.add((tuple(sorted(heard)), behind))
    return sorted(found)


def plain_evenings(habits, stand, letters, asks):
    """All stands behind the house's deeds, as a sorted list; nothing is refused."""
    numbers = {way[1]: number for number, way in enumerate(habits.ways) if way[0] == "house"}
    sent = [(numbers[text], "letter", 0, 0, False) for text in letters]
    sent += [(numbers[text], "ask", 0, 0, False) for text in asks]
    found = {(stand[0], tuple(sorted(list(stand[1]) + kept))) for kept in lost_rows(habits, sent)}
    return sorted(found)


def plain_next(habits, stand, day):
    """All stands that come of a stand by what was heard and done, as a set; nothing is refused."""
    heard, letters, asks = day
    return {evening for words, morning in plain_mornings(habits, stand) if words == heard
            for evening in plain_evenings(habits, morning, letters, asks)}


def plain_lots(habits, book):
    """The lots of all days of a book as sorted tuples; behind the first one that is refused its error's name alone."""
    lot = plain_evenings(habits, ((-1,) * len(habits), ()), *book[0][1:])
    lots = [tuple(lot)]
    for day in book[1:]:
        lot = sorted(set().union(*[plain_next(habits, stand, day) for stand in lot]))
        if not lot:
            return lots + ["NoRun"]
        if len(lot) > 300 or max(len(stand[1]) for stand in lot) > 6:
            return lots + ["TooMany"]
        lots.append(tuple(lot))
    return lots


def plain_runs(habits, book):
    """All runs of a book, one by one, always in the same order; no stand of them is looked at."""
    runs = [(stand,) for stand in plain_evenings(habits, ((-1,) * len(habits), ()), *book[0][1:])]
    for day in book[1:]:
        runs = [run + (stand,) for run in runs for stand in sorted(plain_next(habits, run[-1], day))]
    return runs


def plain_fails(habits, book, run):
    """The first day on which a tuple of stands, as many as days, is no run of a book; None where it's one."""
    coming = plain_evenings(habits, ((-1,) * len(habits), ()), *book[0][1:])
    for at in range(len(book)):
        if at > 0:
            coming = plain_next(habits, run[at - 1], book[at])
        if run[at] not in coming:
            return at
    return None
