"""Books of chance habits, against all stands and runs gone through plainly."""

import random
import unittest

from nameagain.days import bare
from nameagain.errors import NoRun, TooMany
from nameagain.left import is_clear, paper, shows
from nameagain.lots import hearings, is_lot, lot_of, may_be, must_be, next_lot
from nameagain.runs import fails, how_many, look_book, run_to
from plain import plain_evenings, plain_fails, plain_lots, plain_mornings, plain_runs
from test_days_plain import chance_deeds, chance_habits


def chance_book(chance, habits):
    """A book of a few days, on most of which what is heard can be; where a day can't be gone it ends."""
    book = [((), chance_deeds(chance, habits), chance_deeds(chance, habits))]
    lot = plain_evenings(habits, bare(habits), *book[0][1:])
    for _ in range(chance.randint(0, 5)):
        heard = chance.choice(sorted({row[0] for stand in lot[:20] for row in plain_mornings(habits, stand)}))
        if chance.random() < 0.2:
            heard = heard[1:] or tuple((text, "none") for text, kind, _ in habits.folk[:1] if kind == "saying")
        busy = chance.random() < 0.4
        book.append((heard, chance_deeds(chance, habits) if busy else (), chance_deeds(chance, habits) if busy else ()))
        lot = plain_lots(habits, book)[-1]
        if isinstance(lot, str):
            break
    return tuple(book)


def told(function, *things):
    """What a function tells, or the name of the error by which it refuses, and its field."""
    try:
        return function(*things)
    except (NoRun, TooMany) as error:
        return type(error).__name__, error.at


def places(stand, habits):
    """The places where a stand has something."""
    notes, under = stand
    return ({(folk[0],) for folk, note in zip(habits.folk, notes) if note >= 0}
            | {habits.ways[thing[0]][:2] for thing in under})


class LotsPlain(unittest.TestCase):
    def check_refused(self, habits, book, refusal):
        for function in (lot_of, how_many, is_clear, paper):
            self.assertEqual(told(function, habits, book), refusal)
        self.assertEqual(told(fails, habits, book, None), refusal)
        self.assertEqual(told(run_to, habits, book, bare(habits)), refusal)

    def check_bent(self, chance, habits, book, runs):
        """Runs with a stand of another run put in, or one that's alike but for a thing."""
        for _ in range(20):
            run, at = list(chance.choice(runs)), chance.randrange(len(book))
            notes, under = chance.choice(runs)[chance.randrange(len(book))]
            if under and chance.random() < 0.3:
                gone = chance.randrange(len(under))
                under = under[:gone] + under[gone + 1:]
            run[at] = notes, under
            at = plain_fails(habits, book, run)
            self.assertEqual(fails(habits, book, tuple(run)), at)
            self.assertIs(shows(habits, book, ("left", tuple(run))), at is None and run[-1] != bare(habits))

    def check_runs(self, chance, habits, book, lot):
        many = how_many(habits, book)
        if many < 2000:
            runs = plain_runs(habits, book)
            self.assertEqual(many, len(set(runs)))
            self.check_bent(chance, habits, book, runs)
            for run in runs[:50]:
                self.assertIsNone(fails(habits, book, run))
                self.assertIs(shows(habits, book, ("left", run)), run[-1] != bare(habits))
        for stand in lot[:20]:
            run = run_to(habits, book, stand)
            self.assertIsNone(fails(habits, book, run))
            self.assertEqual(run[-1], stand)

    def check_next(self, habits, lot):
        rows = [row for stand in lot for row in plain_mornings(habits, stand)]
        if max(len(stand[1]) for _, stand in rows) > 6:
            self.assertEqual(told(hearings, habits, lot), ("TooMany", 0))
            return
        heards = sorted({heard for heard, _ in rows})
        self.assertEqual(hearings(habits, lot), heards)
        for heard in heards:
            behind = tuple(sorted({stand for words, stand in rows if words == heard}))
            self.assertEqual(told(next_lot, habits, lot, heard), behind if len(behind) <= 300 else ("TooMany", 0))

    def check_lot(self, habits, book, lots):
        lot = lots[-1]
        self.assertEqual(lot_of(habits, book), lot)
        self.assertIs(is_lot(habits, lot), True)
        clear = lot == (bare(habits),)
        self.assertIs(is_clear(habits, book), clear)
        self.assertEqual(paper(habits, book)[0], "clear" if clear else "left")
        self.assertIs(shows(habits, book, paper(habits, book)), True)
        self.assertIs(shows(habits, book, ("clear", tuple(lots))), clear)
        ways = [(folk[0],) for folk in habits.folk] + [way[:2] for way in habits.ways]
        filled = [places(stand, habits) for stand in lot]
        self.assertEqual(may_be(habits, lot), [place for place in ways if any(place in row for row in filled)])
        self.assertEqual(must_be(habits, lot), [place for place in ways if all(place in row for row in filled)])

    def test_chance_books(self):
        chance = random.Random(11)
        counts = {"NoRun": 0, "TooMany": 0, "lot": 0}
        for _ in range(160):
            habits = chance_habits(chance)
            book = chance_book(chance, habits)
            self.assertIsNone(look_book(habits, book))
            lots = plain_lots(habits, book)
            if isinstance(lots[-1], str):
                counts[lots[-1]] += 1
                self.check_refused(habits, book, (lots[-1], len(lots) - 1))
            else:
                counts["lot"] += 1
                self.check_lot(habits, book, lots)
                self.check_runs(chance, habits, book, lots[-1])
                self.check_next(habits, lots[-1][:100])
        self.assertGreater(min(counts.values()), 5, counts)


if __name__ == "__main__":
    unittest.main()
