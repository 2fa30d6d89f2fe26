"""Timetables of chance habits, against all that the folk may do, and against a house that goes by them."""

import random
import unittest

from nameagain.errors import Full, TooMany
from nameagain.house import House
from nameagain.tables import fewest, fewest_paper, hold, look_table, shows_fewest
from plain_met import Much, Plain, letters_on
from test_days_plain import chance_habits
from test_met_plain import refusal

EVER = 10 ** 6


def chance_thing(chance, plain):
    stay = chance.randint(1, 4)
    sendings = {(chance.randrange(stay), text) for text in plain.texts for _ in range(2) if chance.random() < 0.3}
    return chance.randint(0, 12), stay, tuple(sorted(sendings))


class Worst:
    """How long a thing's name may be borne from each lot of an evening on, and by which hearing."""

    def __init__(self, plain, stay, sendings):
        self.plain, self.stay, self.sendings, self.known = plain, stay, sendings, {}

    def days(self, lot, after):
        """The most nights behind which the name may not be clear, of those from an evening on."""
        if after >= self.stay:
            days = self.plain.late(self.plain.met(lot), lot)
            return EVER if days is None else days
        if (lot, after) not in self.known:
            lots = self.behind(lot, after).values()
            self.known[lot, after] = 1 + max(self.days(evening, after + 1) for evening in lots)
        return self.known[lot, after]

    def behind(self, lot, after):
        """By each hearing the lot of the next evening."""
        letters = letters_on(self.sendings, after + 1)
        return {heard: self.plain.sent(morning, letters) for heard, morning in self.plain.heard(lot).items()}

    def heard(self, lot, after):
        """What is heard at the worst behind an evening."""
        behind = self.behind(lot, after)
        return max(sorted(behind), key=lambda heard: self.days(behind[heard], after + 1))


class TablesPlain(unittest.TestCase):
    def goes_by(self, plain, table, many, choose):
        """Whether a house with so many names refuses no coming of a timetable, where choose tells what is heard."""
        house, names, worst = House(plain.habits, many), {}, [Worst(plain, *thing[1:]) for thing in table]
        for day in range(60):
            for number, (comes, stay, _) in enumerate(table):
                if comes + stay == day:
                    house.go(names[number])
            for number, (comes, _, sendings) in enumerate(table):
                if comes == day:
                    try:
                        names[number] = house.come(letters=letters_on(sendings, 0))
                    except Full:
                        return False
                elif comes < day < comes + table[number][1]:
                    for text in letters_on(sendings, day - comes):
                        house.send(names[number], text)
            heard = []
            for number, (comes, _, _) in enumerate(table):
                name = names.get(number)
                if name is not None and house.names()[name] != "free":
                    if number == max(other for other in names if names[other] == name):
                        words = choose(worst[number], house.lot(name), day - comes)
                        heard += [(name,) + word for word in words]
            house.night(tuple(sorted(heard)))
        return True

    def check_house(self, chance, plain, table, many):
        if many <= 8:
            self.assertTrue(self.goes_by(plain, table, many, Worst.heard))
            for _ in range(3):
                self.assertTrue(self.goes_by(plain, table, many, lambda worst, lot, after:
                                             chance.choice(sorted(worst.behind(lot, after)))))
        if many > 1:
            self.assertFalse(self.goes_by(plain, table, many - 1, Worst.heard))

    def check(self, chance, plain, table):
        habits = plain.habits
        self.assertIsNone(look_table(habits, table))
        told = []
        for number, (day, stay, sendings) in enumerate(table):
            try:
                told.append(plain.hold(stay, sendings))
                self.assertEqual(hold(habits, (day, stay, sendings)), told[-1])
            except Much:
                self.assertEqual(refusal(hold, habits, (day, stay, sendings)), 0)
                self.assertEqual(refusal(fewest, habits, table), number)
                self.assertEqual(refusal(fewest_paper, habits, table), number)
                with self.assertRaises(TooMany):
                    shows_fewest(habits, table, None)
                return "much"
        there = [[number for number, thing in enumerate(table)
                  if thing[0] <= day < thing[0] + (told[number] or EVER)] for day in range(80)]
        many = max(map(len, there))
        self.assertEqual(fewest(habits, table), many)
        self.assertIs(shows_fewest(habits, table, fewest_paper(habits, table)), True)
        for day, numbers in enumerate(there):
            self.assertIs(shows_fewest(habits, table, (day, tuple(numbers))), len(numbers) == many)
        self.check_house(chance, plain, table, many)
        return many

    def test_chance_tables(self):
        chance, counts = random.Random(18), {}
        for _ in range(40):
            plain = Plain(chance_habits(chance))
            table = tuple(chance_thing(chance, plain) for _ in range(chance.randint(1, 6)))
            told = self.check(chance, plain, table)
            counts[told] = counts.get(told, 0) + 1
        self.assertGreater(counts["much"], 4, counts)
        self.assertGreater(counts[1] + counts[2] + counts[3] + counts[4], 12, counts)


if __name__ == "__main__":
    unittest.main()
