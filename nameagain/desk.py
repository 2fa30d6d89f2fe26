"""A desk: a house that is told its deeds, and asked, in words."""

from nameagain.asks import fewest_asks, soonest
from nameagain.errors import NoSaying
from nameagain.habits import is_folk_text
from nameagain.house import House
from nameagain.late import late
from nameagain.lots import may_be, must_be
from nameagain.nights import BURNT, NONE
from nameagain.texts import NOTHING, is_figures, read_habits

OK = "ok"
NEVER = "never"
NUMBER = "N"
TEXT = "TEXT"


def show_all(words):
    """Words with a blank between them."""
    return " ".join(words) or NOTHING


def show_number(number):
    """A number, or that it's never."""
    return NEVER if number is None else str(number)


def show_places(places):
    """Places, those on ways by both ends."""
    return show_all([">".join(place) for place in places])


def say_come(house, texts):
    return str(house.come(letters=tuple(texts)))


def say_go(house, things):
    house.go(things[0])
    return OK


def say_send(house, things):
    house.send(things[0], things[1])
    return OK


def say_ask(house, things):
    house.ask(things[0], things[1])
    return OK


def say_night(house, words):
    return show_all([str(name) for name in house.night(tuple(words))])


def say_back(house, things):
    house.back()
    return OK


def say_day(house, things):
    return str(house.day())


def say_names(house, things):
    return show_all(house.names())


def say_may(house, things):
    return show_places(may_be(house.habits, house.lot(things[0])))


def say_must(house, things):
    return show_places(must_be(house.habits, house.lot(things[0])))


def say_late(house, things):
    return show_number(late(house.habits, house.lot(things[0])))


def say_soonest(house, things):
    return show_number(soonest(house.habits, house.lot(things[0])))


def say_fewest(house, things):
    return show_number(fewest_asks(house.habits, house.lot(things[0])))


ANSWERS = {"come": say_come, "go": say_go, "send": say_send, "ask": say_ask, "night": say_night, "back": say_back,
           "day": say_day, "names": say_names, "may": say_may, "must": say_must, "late": say_late,
           "soonest": say_soonest, "fewest": say_fewest}
# What stands behind the first word; behind those that aren't here stand as many words as one likes.
KINDS = {"go": (NUMBER,), "send": (NUMBER, TEXT), "ask": (NUMBER, TEXT), "back": (), "day": (), "names": (),
         "may": (NUMBER,), "must": (NUMBER,), "late": (NUMBER,), "soonest": (NUMBER,), "fewest": (NUMBER,)}


def read_number(word):
    """The number that a word tells."""
    if not is_figures(word):
        raise NoSaying("no number")
    return int(word)


def read_text(word):
    """A word that may call a folk."""
    if not is_folk_text(word):
        raise NoSaying("no text of a folk")
    return word


def read_heard(word):
    """What a word tells that is heard in a night."""
    parts = word.split(":")
    if len(parts) != 3 or parts[2] not in (BURNT, NONE):
        raise NoSaying("nothing that is heard in a night")
    return (read_number(parts[0]), read_text(parts[1]), parts[2])


def read_things(first, words):
    """The things that the words behind the first one tell."""
    if first == "come":
        return [read_text(word) for word in words]
    if first == "night":
        return [read_heard(word) for word in words]
    if first not in KINDS or len(words) != len(KINDS[first]):
        raise NoSaying("no such row")
    return [read_number(word) if kind == NUMBER else read_text(word) for kind, word in zip(KINDS[first], words)]


class Desk:
    """A house of the habits that a text tells, spoken to in rows of words."""

    def __init__(self, text, many=4):
        self.house = House(read_habits(text), many)

    def say(self, row):
        """Do what a row says, or tell what it asks for."""
        if not isinstance(row, str):
            raise NoSaying("no text")
        first, *words = row.split(" ")
        things = read_things(first, words)
        answer = ANSWERS[first]
        return answer(self.house, things)
