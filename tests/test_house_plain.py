"""Houses of chance habits and deeds, held deed by deed to a plain one."""

import random
import unittest

from cases import story, told_of
from nameagain import errors
from nameagain.house import House
from plain_met import Much, Plain
from test_days_plain import chance_habits

REFUSALS = tuple(getattr(errors, name) for name in (
    "NoDeeds", "Full", "NoName", "NotHeld", "NoWay", "Again", "NoHeard", "NoRun", "TooMany", "Nothing"))


class PlainHouse:
    """A house as point 15 tells it; what is refused is told as (name of the error, what its field holds)."""

    def __init__(self, plain, many):
        self.plain = plain
        self.day = 0
        self.names = [["free", plain.bare, frozenset()] for _ in range(many)]

    def copy(self):
        other = PlainHouse(self.plain, 0)
        other.day, other.names = self.day, [list(one) for one in self.names]
        return other

    def told(self):
        states = [one[0] for one in self.names]
        return self.day, states, [one[1] for one in self.names], states.count("held")

    def named(self, name):
        return type(name) is int and 0 <= name < len(self.names)

    def come(self, letters):
        if any(text not in self.plain.texts for text in letters) or list(letters) != sorted(set(letters)):
            return "NoDeeds", None
        free = [name for name, one in enumerate(self.names) if one[0] == "free"]
        if not free:
            return "Full", None
        sent = frozenset((text, "letter") for text in letters)
        self.names[free[0]] = ["held", self.plain.sent(self.plain.bare, letters), sent]
        return free[0]

    def go(self, name):
        if not self.named(name):
            return "NoName", name
        if self.names[name][0] != "held":
            return "NotHeld", name
        self.names[name][0] = "free" if self.names[name][1] == self.plain.bare else "left"
        return None

    def bear(self, name, text, word):
        if not self.named(name):
            return "NoName", name
        state, lot, sent = self.names[name]
        if state == "free" or (state == "left" and word == "letter"):
            return "NotHeld", name
        if text not in self.plain.texts:
            return "NoWay", text
        if (text, word) in sent:
            return "Again", text
        try:
            lot = self.plain.sent(lot, *[(text,) if word == one else () for one in ("letter", "ask")])
        except Much:
            return "TooMany", name
        self.names[name] = [state, lot, sent | {(text, word)}]
        return None

    def night(self, heard):
        if list(heard) != sorted(heard) or not all(self.named(name) for name, _, _ in heard):
            return "NoHeard", None
        saying = [text for text, kind, _ in self.plain.habits.folk if kind == "saying"]
        if not all(text in saying and word in ("burnt", "none") for _, text, word in heard):
            return "NoHeard", None
        lots = []
        for at, (_, lot, _) in enumerate(self.names):
            words = tuple((text, word) for name, text, word in heard if name == at)
            lots.append(self.plain.stands_heard(lot).get(words))
        for at, stands in enumerate(lots):
            if stands is None:
                return "NoRun", at
        for at, stands in enumerate(lots):
            if len(stands) > 300 or max(len(stand[1]) for stand in stands) > 6:
                return "TooMany", at
        freed = []
        for at, stands in enumerate(lots):
            lot = tuple(sorted(stands))
            if self.names[at][0] == "left" and lot == self.plain.bare:
                freed.append(at)
            self.names[at] = ["free" if at in freed else self.names[at][0], lot, frozenset()]
        self.day += 1
        return freed


def told(function, *things, **named):
    """What is told, or by which error, and with what in its field, it's refused."""
    try:
        return function(*things, **named)
    except REFUSALS as error:
        fields = [getattr(error, field) for field in ("name", "text", "at") if hasattr(error, field)]
        return type(error).__name__, fields[0] if fields else None


class HousePlain(unittest.TestCase):
    def chance_heard(self, chance, model):
        """What may well be heard, sometimes bent."""
        heard = []
        for name, (_, lot, _) in enumerate(model.names):
            words = chance.choice(sorted(model.plain.stands_heard(lot)))
            heard += [(name,) + word for word in words]
        heard = tuple(sorted(heard))
        if chance.random() < 0.15:
            texts = [folk[0] for folk in model.plain.habits.folk]
            more = (chance.choice((0, 1, len(model.names))), chance.choice(texts), chance.choice(("burnt", "none")))
            heard = chance.choice((heard[1:], tuple(sorted(heard + (more,))), heard[::-1], heard + (more,)))
        return heard

    def chance_deed(self, chance, house, model):
        """One deed, done by both: what both told, and whether it was a deed to be taken back."""
        texts = model.plain.texts + chance.choice(([], [], ["zed"]))
        name = chance.choice(list(range(len(model.names))) + [len(model.names)])
        text = chance.choice(texts or ["zed"])
        kind = chance.choice(("come", "come", "go", "send", "ask", "night", "night"))
        if kind == "come":
            letters = [one for one in texts if chance.random() < 0.5]
            letters = tuple(letters if chance.random() < 0.9 else letters[::-1])
            return told(house.come, letters=letters), model.come(letters)
        if kind == "go":
            return told(house.go, name), model.go(name)
        if kind == "night":
            heard = self.chance_heard(chance, model)
            return told(house.night, heard), model.night(heard)
        return told(getattr(house, kind), name, text), model.bear(name, text, {"send": "letter"}.get(kind, kind))

    def check_story(self, chance, plain, seen):
        many = chance.randint(1, 4)
        house, past = House(plain.habits, many), [PlainHouse(plain, many)]
        for _ in range(40):
            if chance.random() < 0.1:
                answer = told(house.back)
                self.assertEqual(answer, None if len(past) > 1 else ("Nothing", None))
                past = past[:-1] or past
                continue
            model = past[-1].copy()
            told_one, told_other = self.chance_deed(chance, house, model)
            self.assertEqual(told_one, told_other)
            if isinstance(told_other, tuple):
                seen[told_other[0]] = seen.get(told_other[0], 0) + 1
            else:
                past.append(model)
            self.assertEqual(told_of(house), past[-1].told())
        self.assertEqual(story(house), [one.told() for one in past[::-1]])

    def test_chance_houses(self):
        chance, seen = random.Random(15), {}
        for _ in range(120):
            self.check_story(chance, Plain(chance_habits(chance)), seen)
        self.assertEqual(sorted(seen), ["Again", "Full", "NoDeeds", "NoHeard", "NoName", "NoRun", "NoWay", "NotHeld",
                                        "TooMany"])
        self.assertGreater(min(seen.values()), 4, seen)


if __name__ == "__main__":
    unittest.main()
