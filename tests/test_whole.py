"""Point 3 and point 1: a world of its own, whose names a desk is told of, deed by deed and night by night."""

import random
import unittest

from nameagain.days import bare
from nameagain.desk import Desk
from nameagain.errors import Again, Full, NotHeld, NoWay, TooMany
from nameagain.late import late
from nameagain.left import is_clear, paper, shows
from nameagain.lots import lot_of
from nameagain.runs import fails
from nameagain.texts import read_book, read_habits, show_book, show_habits
from plain import plain_evenings, plain_mornings
from test_days_plain import chance_habits


class World:
    """What is truly about of each name, which no desk sees: stands, and who has the name."""

    def __init__(self, chance, habits, many):
        self.chance, self.habits = chance, habits
        self.stands = [bare(habits)] * many
        self.held = [False] * many
        self.runs = [[] for _ in range(many)]
        self.books = [[] for _ in range(many)]
        self.given_again = 0

    def deed(self, name, letters, asks):
        """The folk's ways carry what is sent, or lose it."""
        self.stands[name] = self.chance.choice(plain_evenings(self.habits, self.stands[name], letters, asks))
        heard, sent, asked = self.books[name][-1]
        self.books[name][-1] = heard, tuple(sorted(sent + letters)), tuple(sorted(asked + asks))

    def come(self, name, letters):
        self.given_again += len(self.books[name]) > 0
        self.held[name], self.runs[name], self.books[name] = True, [], [((), (), ())]
        self.deed(name, letters, ())

    def night(self):
        """All things go about; told is what comes to the house."""
        heard = []
        for name, stand in enumerate(self.stands):
            words, self.stands[name] = self.chance.choice(plain_mornings(self.habits, stand))
            self.runs[name].append(stand)
            self.books[name].append((words, (), ()))
            heard += [(name,) + word for word in words]
        return sorted(heard)

    def places(self, name):
        """The places where something of a name truly is, as a desk writes them."""
        notes, under = self.stands[name]
        kept = {folk[0] for folk, note in zip(self.habits.folk, notes) if note >= 0}
        return kept | {">".join(self.habits.ways[thing[0]][:2]) for thing in under}


def words(answer):
    return set() if answer == "-" else set(answer.split(" "))


def said(heard):
    """A night's words as a row."""
    return " ".join(["night"] + [":".join(map(str, one)) for one in heard])


class Whole(unittest.TestCase):
    def check(self, world, desk):
        """What may be is all that there is, what must be is there, and what is free is nowhere."""
        states = desk.say("names").split(" ")
        for name, state in enumerate(states):
            there = world.places(name)
            self.assertLessEqual(there, words(desk.say(f"may {name}")))
            self.assertLessEqual(words(desk.say(f"must {name}")), there)
            self.assertIn(world.stands[name], desk.house.lot(name))
            self.assertEqual(world.held[name], state == "held")
            if state == "free":
                self.assertEqual(there, set())

    def check_book(self, world, desk, name):
        """The house's book tells what the desk tells; the world's own run is one of it."""
        book = tuple(world.books[name])
        if not 1 <= len(book) <= 30:
            return
        habits = world.habits
        self.assertEqual(read_book(habits, show_book(habits, book)), book)
        run = tuple(world.runs[name]) + (world.stands[name],)
        self.assertIsNone(fails(habits, book, run))
        self.assertEqual(lot_of(habits, book), desk.house.lot(name))
        self.assertEqual(is_clear(habits, book), desk.house.lot(name) == (bare(habits),))
        self.assertIs(shows(habits, book, paper(habits, book)), True)
        self.assertIs(shows(habits, book, ("left", run)), run[-1] != bare(habits))

    def one_day(self, chance, world, desk):
        texts = sorted(way[1] for way in world.habits.ways if way[0] == "house")
        for _ in range(chance.randint(0, 4)):
            name, text = chance.randrange(len(world.stands)), chance.choice(texts + ["zed"])
            word = chance.choice(("come", "come", "go", "send", "ask"))
            try:
                if word == "come":
                    letters = tuple(one for one in texts if chance.random() < 0.4)
                    given = int(desk.say(" ".join(("come",) + letters)))
                    # No name is given while anything bears it.
                    self.assertEqual((world.places(given), world.held[given]), (set(), False))
                    world.come(given, letters)
                elif word == "go":
                    desk.say(f"go {name}")
                    world.held[name] = False
                else:
                    desk.say(f"{word} {name} {text}")
                    world.deed(name, *[(text,) if word == one else () for one in ("send", "ask")])
            except (Again, Full, NotHeld, NoWay, TooMany):
                pass
            self.check(world, desk)

    def live(self, chance, seen):
        habits, many = chance_habits(chance), chance.randint(1, 3)
        if all(way[0] != "house" for way in habits.ways):
            return
        desk, world = Desk(show_habits(habits), many), World(chance, habits, many)
        self.assertEqual(read_habits(show_habits(habits)), habits)
        for number in range(40):
            self.assertEqual(desk.say("day"), str(number))
            self.one_day(chance, world, desk)
            ahead, stands = desk.house.twin(), list(world.stands)
            runs, books = [list(run) for run in world.runs], [list(book) for book in world.books]
            try:
                told = words(desk.say(said(world.night())))
            except TooMany:
                seen["much"] = seen.get("much", 0) + 1
                return
            self.assertEqual({name for name in range(many) if ahead.names()[name] == "left"
                              and desk.house.names()[name] == "free"}, set(map(int, told)))
            self.check(world, desk)
            if chance.random() < 0.1:
                # Taken back, the night never was, and another one is lived.
                self.assertEqual(desk.say("back"), "ok")
                self.assertTrue(desk.house == ahead)
                world.stands, world.runs, world.books = stands, runs, books
                try:
                    desk.say(said(world.night()))
                except TooMany:
                    return
                self.check(world, desk)
            for name in range(many):
                if desk.house.names()[name] != "free" and number % 5 == 0:
                    self.check_book(world, desk, name)
        seen["lived"] = seen.get("lived", 0) + 1
        seen["again"] = seen.get("again", 0) + world.given_again

    def test_chance_worlds(self):
        chance, seen = random.Random(3), {}
        for _ in range(40):
            self.live(chance, seen)
        self.assertGreater(seen["lived"], 10, seen)
        self.assertGreater(seen["again"], 20, seen)

    def test_late_as_told(self):
        """From any lot on, in a silent world, the name is clear not later than told."""
        chance = random.Random(31)
        for _ in range(60):
            habits = chance_habits(chance)
            texts = sorted(way[1] for way in habits.ways if way[0] == "house")
            desk, world = Desk(show_habits(habits), 1), World(chance, habits, 1)
            if not texts:
                continue
            world.come(int(desk.say(f"come {texts[0]}")), (texts[0],))
            desk.say("go 0")
            try:
                days = late(habits, desk.house.lot(0))
            except TooMany:
                continue
            for _ in range(25 if days is None else days):
                desk.say(said(world.night()))
                self.assertIn(world.stands[0], desk.house.lot(0))
            if days is not None:
                self.assertEqual(desk.say("names"), "free")


if __name__ == "__main__":
    unittest.main()
