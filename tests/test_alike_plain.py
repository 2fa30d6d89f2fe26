"""Rows that part lots of chance habits, against all rows gone through plainly."""

import random
import unittest

from nameagain.alike import parting, parts
from nameagain.habits import Habits
from plain_met import Much, Plain
from test_days_plain import chance_habits
from test_met_plain import chance_lot, refusal


def small_habits(chance):
    """Habits of one or two folk, mostly with short ways, so that there are not too many pairs."""
    while True:
        habits = chance_habits(chance)
        longest = chance.choice((1, 1, 2, 3))
        ways = tuple(one[:2] + (min(one[2], longest), min(one[3], longest)) + one[4:] for one in habits.ways)
        if len(habits) <= chance.choice((1, 2)):
            return Habits(habits.folk, ways, steps=habits.steps)


def plain_parts(plain, one, other, row):
    """Whether a row of steps parts two lots, gone through plainly."""
    for at, step in enumerate(row):
        ahead, behind = plain.steps(one), plain.steps(other)
        if (step in ahead) != (step in behind):
            return at == len(row) - 1
        if step not in ahead:
            return False
        one, other = ahead[step], behind[step]
    return (one == plain.bare) != (other == plain.bare)


class AlikePlain(unittest.TestCase):
    def check_rows(self, chance, plain, one, other):
        """Rows by chance, mostly such as one of both lots can go."""
        for _ in range(6):
            row, lots = [], [one, other]
            for _ in range(chance.randint(0, 4)):
                step = chance.choice(sorted(plain.steps(chance.choice(lots))))
                row.append(step)
                if not all(step in plain.steps(lot) for lot in lots):
                    row += row[-1:] * chance.choice((0, 0, 1))
                    break
                lots = [plain.steps(lot)[step] for lot in lots]
            told = plain_parts(plain, one, other, row)
            self.assertIs(parts(plain.habits, one, other, tuple(row)), told)
            self.assertIs(parts(plain.habits, other, one, tuple(row)), told)

    def check(self, chance, plain, one, other):
        habits = plain.habits
        try:
            row = plain.parting(one, other)
        except Much:
            self.assertEqual(refusal(parting, habits, one, other), 0)
            return "much"
        self.assertEqual(parting(habits, one, other), row)
        self.assertEqual(parting(habits, other, one), row)
        self.check_rows(chance, plain, one, other)
        if row is None:
            return "none"
        self.assertIs(parts(habits, one, other, row), True)
        for many in range(len(row)):
            self.assertIs(parts(habits, one, other, row[:many]), False)
        return min(len(row), 4)

    def test_chance_lots(self):
        chance, counts = random.Random(19), {}
        for _ in range(260):
            plain = Plain(small_habits(chance))
            try:
                one = chance_lot(chance, plain)
                other = chance.choice((lambda: one, lambda: chance_lot(chance, plain), lambda: one[:-1] or plain.bare,
                                       lambda: chance.choice(list(plain.heard(one).values()))))()
            except Much:
                continue
            told = self.check(chance, plain, one, other)
            counts[told] = counts.get(told, 0) + 1
        self.assertEqual(len(counts), 6, counts)
        self.assertGreater(min(counts.values()), 2, counts)


if __name__ == "__main__":
    unittest.main()
