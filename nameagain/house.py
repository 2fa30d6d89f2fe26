"""The house: names given to things that come, and given again when nothing is left of who bore them."""

from nameagain.days import are_deeds, are_heard
from nameagain.errors import Again, Full, NoDeeds, NoHabits, NoHeard, NoName, NoRun, NotHeld, Nothing, NoWay, TooMany
from nameagain.habits import sent_to
from nameagain.kinds import is_between, is_tuple_of
from nameagain.met import bare_lot, lot_heard, lot_sent
from nameagain.nights import ASK, LETTER

FREE = "free"
HELD = "held"
LEFT = "left"
MOST_NAMES = 8


def is_word(many, thing):
    """Whether a thing is one of so many names with a text and a word."""
    return is_tuple_of(thing, 3) and is_between(thing[0], 0, many - 1)


def words_of(heard, name):
    """What is heard of a name."""
    return tuple([(text, word) for of, text, word in heard if of == name])


def are_words(habits, many, thing):
    """Whether a thing may be what is heard of so many names in a night."""
    if not isinstance(thing, tuple) or not all([is_word(many, one) for one in thing]):
        return False
    # The words of all are looked at ahead of their order: what isn't of a kind has none.
    if not all([are_heard(habits, ((text, word),)) for name, text, word in thing]):
        return False
    return list(thing) == sorted(thing)


def lot_named(habits, name, lot, letters, asks):
    """The lot of a name behind deeds; refused by the name where it's too much."""
    try:
        return lot_sent(habits, lot, letters, asks)
    except TooMany:
        raise TooMany(name) from None


def lots_of_night(habits, rows, heard):
    """The lots of all names behind a night."""
    lots = []
    long = []
    for name, (state, lot, sent) in enumerate(rows):
        try:
            lots.append(lot_heard(habits, lot, words_of(heard, name)))
        except NoRun:
            raise NoRun(name) from None
        except TooMany:
            long.append(name)
    # That something can't be heard at all is told ahead of what is too much.
    if long:
        raise TooMany(long[0])
    return lots


class House:
    """Who has which name, what may be about of it, and all deeds that can be taken back."""

    def __init__(self, habits, many=4):
        if not is_between(many, 1, MOST_NAMES):
            raise NoHabits("many")
        self.habits = habits
        self.nights = 0
        # To each name its state, its lot, and what was sent of it today: sorted tuples (text, word).
        self.rows = ((FREE, bare_lot(habits), ()),) * many
        self.past = []

    def __eq__(self, other):
        return isinstance(other, House) and self.habits == other.habits and self.rows == other.rows

    def __len__(self):
        return len([state for state, lot, sent in self.rows if state == HELD])

    def look_name(self, name):
        """Refuse what is none of the names."""
        if not is_between(name, 0, len(self.rows) - 1):
            raise NoName(name)

    def change(self, nights, rows):
        """Go on to another day and other rows, so that this can be taken back."""
        self.past.append((self.nights, self.rows))
        self.nights = nights
        self.rows = tuple(rows)

    def put(self, name, row):
        """Do a deed that changes one name alone."""
        self.change(self.nights, self.rows[:name] + (row,) + self.rows[name + 1:])

    def come(self, *, letters=()):
        """Give a thing that comes the least free name, borne by these letters; told is the name."""
        if not are_deeds(self.habits, letters):
            raise NoDeeds("letters are a rising tuple of texts of folk to whom the house has a way")
        free = [name for name, state in enumerate(self.names()) if state == FREE]
        if not free:
            raise Full("no name is free")
        lot = lot_named(self.habits, free[0], bare_lot(self.habits), letters, ())
        self.put(free[0], (HELD, lot, tuple([(text, LETTER) for text in letters])))
        return free[0]

    def go(self, name):
        """Let a thing go from its name."""
        self.look_name(name)
        state, lot, sent = self.rows[name]
        if state != HELD:
            raise NotHeld(name)
        self.put(name, (FREE if lot == bare_lot(self.habits) else LEFT, lot, sent))

    def bear(self, name, text, word, states):
        """Send a letter or an ask that bears a name in one of these states."""
        self.look_name(name)
        state, lot, sent = self.rows[name]
        if state not in states:
            raise NotHeld(name)
        if text not in sent_to(self.habits):
            raise NoWay(text)
        if (text, word) in sent:
            raise Again(text)
        letters, asks = ((text,), ()) if word == LETTER else ((), (text,))
        lot = lot_named(self.habits, name, lot, letters, asks)
        self.put(name, (state, lot, tuple(sorted([*sent, (text, word)]))))

    def send(self, name, text):
        """Send a letter of a held name to a folk."""
        self.bear(name, text, LETTER, (HELD,))

    def ask(self, name, text):
        """Send an ask of a held or left name to a folk."""
        self.bear(name, text, ASK, (HELD, LEFT))

    def night(self, heard=()):
        """Hear what comes, and go on to the next day; told is a list of the names that are free now."""
        if not are_words(self.habits, len(self.rows), heard):
            raise NoHeard("heard is a sorted tuple of tuples (name, text of a saying folk, word)")
        lots = lots_of_night(self.habits, self.rows, heard)
        bare = bare_lot(self.habits)
        ahead = self.names()
        freed = [name for name, lot in enumerate(lots) if ahead[name] == LEFT and lot == bare]
        states = [FREE if name in freed else state for name, state in enumerate(ahead)]
        self.change(self.nights + 1, [(state, lot, ()) for state, lot in zip(states, lots)])
        return freed

    def back(self):
        """Take back the last deed that hasn't been taken back."""
        if not self.past:
            raise Nothing("no deed to be taken back")
        self.nights, self.rows = self.past.pop()

    def day(self):
        """The number of the day, 0 at first."""
        return self.nights

    def names(self):
        """The states of all names."""
        return [state for state, lot, sent in self.rows]

    def lot(self, name):
        """The lot of a name."""
        self.look_name(name)
        return self.rows[name][1]

    def twin(self):
        """A house of its own that stands the same."""
        other = House(self.habits, len(self.rows))
        other.nights = self.nights
        other.rows = self.rows
        other.past = list(self.past)
        return other
