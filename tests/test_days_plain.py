"""Days of chance habits and stands, against every choice gone through plainly."""

import random
import unittest

from nameagain.days import evenings, is_stand, mornings
from nameagain.errors import TooMany
from nameagain.habits import Habits
from plain import plain_evenings, plain_mornings

TEXTS = ("ann", "bob", "cyd", "x", "house"[:4], "zzzzzzzz")


def chance_way(chance, source, target):
    most = chance.randint(1, 3)
    least = chance.randint(1, most)
    return source, target, least, most, chance.random() < 0.4, source == "house" and chance.random() < 0.5


def chance_habits(chance):
    texts = chance.sample(TEXTS, chance.choice((1, 2, 2, 3)))
    folk = tuple((text, chance.choice(("saying", "still")), chance.choice((None, 1, 2, 3))) for text in texts)
    ends = [(text, "house") for text in texts]
    ends += [("house", text) for text in texts if chance.random() < 0.8]
    ends += [(one, other) for one in texts for other in texts if one != other and chance.random() < 0.6]
    chance.shuffle(ends)
    return Habits(folk, tuple(chance_way(chance, *pair) for pair in ends), steps=chance.randint(0, 2))


def things_of(habits, way):
    """All things that may be under way on a way."""
    source, target, least, most, _, twice = habits.ways[way]
    if source == "house":
        words, steps = ("ask", "letter"), (0,)
    elif target == "house":
        saying = any(folk[:2] == (source, "saying") for folk in habits.folk)
        words, steps = (("burnt", "none") if saying else ()), (0,)
    else:
        words, steps = ("letter",), range(1, habits.steps + 1)
    copies = [(days, copy) for days in range(most) for copy in (False, True) if not copy or twice and days >= least]
    return [(way, word, days, step, copy) for word in words for step in steps for days, copy in copies]


def chance_stand(chance, habits, many):
    notes = tuple(chance.choice([-1] + list(range(keep or 1))) for _, _, keep in habits.folk)
    under, told = [], []
    for _ in range(many):
        way = chance.randrange(len(habits.ways))
        choices = things_of(habits, way)
        if choices and way not in told:
            under.append(chance.choice(choices))
            if "house" not in habits.ways[way][:2]:
                told.append(way)
    return notes, tuple(sorted(under))


def chance_deeds(chance, habits):
    texts = sorted(way[1] for way in habits.ways if way[0] == "house")
    return tuple(text for text in texts if chance.random() < 0.5)


class DaysPlain(unittest.TestCase):
    def check(self, told, expected, unders):
        """The function tells the expected list, or refuses where a stand of it has too many."""
        if max(len(under) for under in unders) > 6:
            with self.assertRaises(TooMany) as caught:
                told()
            self.assertEqual(caught.exception.at, 0)
            return 0
        self.assertEqual(told(), expected)
        return 1

    def test_chance_days(self):
        chance = random.Random(8)
        gone = 0
        for _ in range(700):
            habits = chance_habits(chance)
            stand = chance_stand(chance, habits, chance.choice((0, 1, 2, 3, 4, 5)))
            self.assertTrue(is_stand(habits, stand))
            expected = plain_mornings(habits, stand)
            gone += self.check(lambda: mornings(habits, stand), expected, [row[1][1] for row in expected])
            for _, behind in expected[:40]:
                self.assertTrue(is_stand(habits, behind))
            letters, asks = chance_deeds(chance, habits), chance_deeds(chance, habits)
            expected = plain_evenings(habits, stand, letters, asks)
            gone += self.check(lambda: evenings(habits, stand, letters=letters, asks=asks), expected,
                               [behind[1] for behind in expected])
        self.assertGreater(gone, 1000)

    def test_chance_runs(self):
        """Stands that come one of another, many days long."""
        chance = random.Random(81)
        for _ in range(60):
            habits = chance_habits(chance)
            stand = ((-1,) * len(habits), ())
            for _ in range(6):
                letters, asks = chance_deeds(chance, habits), chance_deeds(chance, habits)
                behind = plain_evenings(habits, stand, letters, asks)
                if not self.check(lambda: evenings(habits, stand, letters=letters, asks=asks), behind,
                                  [row[1] for row in behind]):
                    break
                stand = chance.choice(behind)
                coming = plain_mornings(habits, stand)
                if not self.check(lambda: mornings(habits, stand), coming, [row[1][1] for row in coming]):
                    break
                stand = chance.choice(coming)[1]


if __name__ == "__main__":
    unittest.main()
