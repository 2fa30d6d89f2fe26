"""Habits, hearings and books, written as texts and read."""

from nameagain.errors import NoHabits, NoText
from nameagain.habits import Habits
from nameagain.runs import MOST_DAYS_OF_BOOK, is_day, look_book

MOST_LINES = 40
FIGURES = "0123456789"
NOTHING = "-"
LOSES = "loses"
TWICE = "twice"


def is_figures(word):
    """Whether a word is a number in figures without a needless 0."""
    return word != "" and all([sign in FIGURES for sign in word]) and (word == "0" or word[0] != "0")


def read_figures(word):
    """The number of these figures; of a great one just as much that it's refused by 4 to 6, as it would be itself."""
    return int(word[:3])


def show_folk(folk):
    """The line of a folk."""
    text, kind, keep = folk
    return f"folk {text} {kind} {NOTHING if keep is None else keep}"


def show_way(way):
    """The line of a way."""
    source, target, least, most, loses, twice = way
    words = ["way", source, target, str(least), str(most)]
    if loses:
        words.append(LOSES)
    if twice:
        words.append(TWICE)
    return " ".join(words)


def show_habits(habits):
    """Habits as a text, a line for the steps, for each folk and for each way."""
    lines = [f"steps {habits.steps}"] + [show_folk(one) for one in habits.folk] + [show_way(one) for one in habits.ways]
    return "\n".join(lines)


def read_steps(words):
    """The steps that the words behind `steps` tell, or None."""
    if len(words) != 1 or not is_figures(words[0]):
        return None
    return read_figures(words[0])


def read_folk(words):
    """The folk that the words behind `folk` tell, or None."""
    if len(words) != 3 or (words[2] != NOTHING and not is_figures(words[2])):
        return None
    return (words[0], words[1], None if words[2] == NOTHING else read_figures(words[2]))


def read_way(words):
    """The way that the words behind `way` tell, or None."""
    if len(words) < 4 or not is_figures(words[2]) or not is_figures(words[3]):
        return None
    if words[4:] not in ([], [LOSES], [TWICE], [LOSES, TWICE]):
        return None
    least, most = read_figures(words[2]), read_figures(words[3])
    return (words[0], words[1], least, most, LOSES in words[4:], TWICE in words[4:])


READERS = {"steps": read_steps, "folk": read_folk, "way": read_way}
# Which lines may stand behind which: the steps first and once, then all folk, then all ways.
AHEAD = {"steps": ("",), "folk": ("steps", "folk"), "way": ("steps", "folk", "way")}


def lines_of(text, most):
    """The lines of a text; refused where it's none, or has too many."""
    if not isinstance(text, str):
        raise NoText(0)
    lines = text.split("\n")
    if len(lines) > most:
        raise NoText(0)
    return lines


def read_lines(lines):
    """What the lines of habits tell, by their first words."""
    told = {"steps": [], "folk": [], "way": []}
    ahead = ""
    for at, line in enumerate(lines):
        word, *words = line.split(" ")
        if word not in READERS or ahead not in AHEAD[word]:
            raise NoText(at + 1)
        reader = READERS[word]
        thing = reader(words)
        if thing is None:
            raise NoText(at + 1)
        told[word].append(thing)
        ahead = word
    return told


def read_habits(text):
    """The habits that a text tells."""
    told = read_lines(lines_of(text, MOST_LINES))
    try:
        return Habits(tuple(told["folk"]), tuple(told["way"]), steps=told["steps"][0])
    except NoHabits:
        raise NoText(1) from None


def show_heard(heard):
    """A hearing as its words."""
    return ", ".join([f"{text} {word}" for text, word in heard]) or NOTHING


def show_day(day):
    """A day of a book as a line."""
    heard, letters, asks = day
    return " / ".join([show_heard(heard), " ".join(letters) or NOTHING, " ".join(asks) or NOTHING])


def show_book(habits, book):
    """A book as a text, a line for each day."""
    look_book(habits, book)
    return "\n".join([show_day(day) for day in book])


def read_words(part, between):
    """The words of a part of a line, with this between them."""
    return [] if part == NOTHING else part.split(between)


def read_day(line):
    """The day that a line seems to tell, or None."""
    parts = line.split(" / ")
    if len(parts) != 3:
        return None
    heard = tuple([tuple(one.split(" ")) for one in read_words(parts[0], ", ")])
    return (heard, tuple(read_words(parts[1], " ")), tuple(read_words(parts[2], " ")))


def read_book(habits, text):
    """The book that a text tells."""
    days = []
    for at, line in enumerate(lines_of(text, MOST_DAYS_OF_BOOK)):
        day = read_day(line)
        if not is_day(habits, day, at):
            raise NoText(at + 1)
        days.append(day)
    return tuple(days)
