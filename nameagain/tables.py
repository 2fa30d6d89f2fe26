"""Timetables: how long a name is borne, whatever is heard, and how few names are enough for all things that come."""

from nameagain.errors import NoTable, TooMany
from nameagain.habits import sent_to
from nameagain.kinds import is_between, is_tuple_of, is_whole, rises
from nameagain.late import days_of, lots_met
from nameagain.met import bare_lot, lot_sent, lots_heard, refuse_met

MOST_THINGS = 6
LAST_DAY = 40
MOST_STAY = 6


def is_sending(habits, stay, thing):
    """Whether a thing is a letter that is sent so many days behind the coming of one that stays so long."""
    return is_tuple_of(thing, 2) and is_between(thing[0], 0, stay - 1) and thing[1] in sent_to(habits)


def is_thing(habits, thing):
    """Whether a thing is one of those that a timetable is made of."""
    if not is_tuple_of(thing, 3):
        return False
    day, stay, sendings = thing
    if not is_between(day, 0, LAST_DAY) or not is_between(stay, 1, MOST_STAY) or not isinstance(sendings, tuple):
        return False
    return all([is_sending(habits, stay, one) for one in sendings]) and rises(sendings)


def look_table(habits, table):
    """Refuse what is no timetable."""
    if not isinstance(table, tuple) or not 1 <= len(table) <= MOST_THINGS:
        raise NoTable(-1)
    for number, thing in enumerate(table):
        if not is_thing(habits, thing):
            raise NoTable(number)


def letters_on(sendings, after):
    """The texts of the folk to whom letters are sent so many days behind the coming."""
    return tuple([text for day, text in sendings if day == after])


def evenings_on(habits, mornings, sendings, after):
    """The lots of the evening so many days behind the coming, of those of its morning."""
    letters = letters_on(sendings, after)
    return list({lot_sent(habits, lot, letters, ()): True for lot in mornings})


def hold_of(habits, stay, sendings):
    """How many days behind the nights of which a name is surely clear, or None."""
    evenings = evenings_on(habits, [bare_lot(habits)], sendings, 0)
    ahead = {}
    for after in range(1, stay + 1):
        for lot in evenings:
            ahead[lot] = True
        refuse_met(list(ahead))
        mornings = [behind for lot in evenings for behind in lots_heard(habits, lot).values()]
        evenings = evenings_on(habits, mornings, sendings, after)
    met = lots_met(habits, evenings)
    refuse_met([*ahead, *[lot for lot in met if lot not in ahead]])
    days = days_of(habits, met)
    if not all([lot in days for lot in evenings]):
        return None
    return stay + max([days[lot] for lot in evenings])


def hold(habits, thing):
    """How many days behind the nights of which a thing's name is surely clear, whatever is heard, or None."""
    if not is_thing(habits, thing):
        raise NoTable(0)
    day, stay, sendings = thing
    return hold_of(habits, stay, sendings)


def holds(habits, table):
    """The holds of all things of a timetable."""
    told = []
    for number, (day, stay, sendings) in enumerate(table):
        try:
            told.append(hold_of(habits, stay, sendings))
        except TooMany:
            raise TooMany(number) from None
    return told


def there_on(table, told, day):
    """The numbers of the things that are there on a day."""
    return [number for number, thing in enumerate(table)
            if thing[0] <= day and (told[number] is None or day < thing[0] + told[number])]


def fullest_day(table, told):
    """A day on which most things are there: one on which a thing comes."""
    return max([thing[0] for thing in table], key=lambda day: len(there_on(table, told, day)))


def fewest(habits, table):
    """How few names a timetable needs, so that no coming is ever refused."""
    look_table(habits, table)
    told = holds(habits, table)
    return len(there_on(table, told, fullest_day(table, told)))


def fewest_paper(habits, table):
    """A paper of the fewest names: a day, and the numbers of the things that are there then."""
    look_table(habits, table)
    told = holds(habits, table)
    day = fullest_day(table, told)
    return (day, tuple(there_on(table, told, day)))


def shows_fewest(habits, table, paper):
    """Whether any thing is a paper of the fewest names of a timetable."""
    look_table(habits, table)
    told = holds(habits, table)
    if not is_tuple_of(paper, 2):
        return False
    day, numbers = paper
    if not is_whole(day) or not isinstance(numbers, tuple):
        return False
    there = there_on(table, told, day)
    if not all([is_whole(number) and number in there for number in numbers]) or not rises(numbers):
        return False
    return len(numbers) == len(there_on(table, told, fullest_day(table, told)))
