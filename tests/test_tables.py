"""Point 18: timetables, a thing's hold, the fewest names, and papers of them."""

import unittest

from cases import Refused
from nameagain.errors import NoTable, TooMany
from nameagain.habits import Habits
from nameagain.tables import fewest, fewest_paper, hold, look_table, shows_fewest
from plain_met import Plain, letters_on
from samples import any_things, letter, nested, one_folk, pair, put, several, triple, way

STILL, SAYING, KEEPS = one_folk("still", 2), one_folk("saying", 2), one_folk("still")
# cyd has no way from the house.
HABITS = Habits(several("ann", "bob").folk + (("cyd", "still", 1),),
                several("ann", "bob").ways + (way("cyd", "house"),))
PLAIN = (3, 2, ((0, "ann"), (1, "ann"), (1, "bob")))
# Lots met with just 400 stands, and with one more; mornings ahead of letters would be more still.
JUST = Habits(
    (("ann", "saying", 2), ("x", "still", 1)),
    (way("house", "x", 1, 1, True), way("ann", "x"), way("ann", "house", 1, 3, True), way("x", "house", 1, 1, True),
     way("house", "ann", 1, 3, True, True), way("x", "ann", 1, 2)), steps=0)
JUST_THING = (0, 5, ((0, "ann"), (1, "x"), (3, "ann"), (3, "x")))
MORE = Habits(
    (("x", "saying", 1), ("hous", "saying", 3)),
    (way("house", "hous", 1, 1, True, True), way("hous", "house", 2, 3), way("hous", "x"),
     way("x", "house", 1, 1, True)), steps=1)
MORE_THING = (1, 6, ((0, "hous"), (3, "hous"), (5, "hous")))
# With three letters a day there are nine things under way on the third.
SLOW = several("ann", "bob", "cyd", kind="still")
SLOW = Habits(SLOW.folk, tuple(way(one[0], one[1], 3, 3) for one in SLOW.ways))
TOO_MUCH = (0, 3, tuple((after, text) for after in range(3) for text in ("ann", "bob", "cyd")))


class Tables(Refused):
    def table(self, at, thing, habits=HABITS):
        if at is None:
            self.assertIsNone(look_table(habits, thing))
        else:
            for told in (look_table, fewest, fewest_paper, lambda *things: shows_fewest(*things, (0, (0,)))):
                self.refused(NoTable, at, told, habits, thing)

    def test_as_told(self):
        self.table(None, (PLAIN,))
        self.table(None, (PLAIN,) * 6)
        self.table(None, ((0, 1, ()),))
        self.table(None, ((40, 6, ()), (0, 6, ((0, "ann"), (5, "ann"), (5, "bob"))), PLAIN))
        self.assertIsNone(look_table(habits=HABITS, table=(PLAIN,)))

    def test_how_many_things(self):
        for thing in ((), (PLAIN,) * 7, [PLAIN], PLAIN[:0], None, "table", {}, 0, (PLAIN,) * 40):
            self.table(-1, thing)

    def test_the_first_thing_that_is_none(self):
        for at in range(6):
            self.table(at, put((PLAIN,) * 6, at, None))
            self.table(at, (PLAIN,) * at + (None,) * (6 - at))
        self.table(0, PLAIN)

    def test_each_part_at_its_bounds(self):
        for day, told in ((0, None), (40, None), (41, 1), (-1, 1), (True, 1), (False, 1), ("3", 1), (None, 1)):
            self.table(told, (PLAIN, put(PLAIN, 0, day)))
        for stay, told in ((2, None), (6, None), (7, 1), (1, 1), (0, 1), (-1, 1), (True, 1), (None, 1), ("2", 1)):
            self.table(told, (PLAIN, put(PLAIN, 1, stay)))
        self.table(None, ((0, 1, ()), (0, 1, ((0, "bob"),))))
        self.table(1, (PLAIN, (0, 0, ())))
        self.table(1, (PLAIN, (0, True, ())))

    def test_sendings(self):
        self.table(None, ((0, 6, ((0, "ann"), (0, "bob"), (2, "bob"), (3, "ann"), (5, "bob"))),))
        for sendings in (((1, "ann"), (0, "ann")), ((0, "bob"), (0, "ann")), ((0, "ann"), (0, "ann")), [(0, "ann")],
                         None,
                         ((0, "cyd"),), ((0, "house"),), ((0, "dan"),), ((2, "ann"),), ((-1, "ann"),), ((True, "ann"),),
                         ((False, "ann"),), (("0", "ann"),), ((0, None),), ((0,),), ((0, "ann", 1),), (0, "ann"),
                         ([0, "ann"],), "ann", ((0, "ann"), None), (("ann", 0),), ((None, "ann"),), {}):
            self.table(0, (put(PLAIN, 2, sendings),))
            self.refused(NoTable, 0, hold, HABITS, put(PLAIN, 2, sendings))
        self.table(0, ((0, 1, ((1, "ann"),)),))

    def test_other_things(self):
        for thing in (list(PLAIN), PLAIN + ((),), PLAIN[:2], (), ((PLAIN,),), "thing", 3, (PLAIN[2], 3, 2)):
            self.table(1, (PLAIN, thing))
            self.refused(NoTable, 0, hold, HABITS, thing)

    def test_any_thing(self):
        for thing in any_things() + [nested(9, PLAIN)]:
            with self.assertRaises(NoTable) as caught:
                look_table(HABITS, thing)
            told = isinstance(thing, tuple) and 1 <= len(thing) <= 6
            self.assertEqual(caught.exception.at, 0 if told else -1)
            self.table(1, (PLAIN, thing))
            for at in (0, 1):
                self.table(1, (PLAIN, put(PLAIN, at, thing)) if not (isinstance(thing, int) and 0 <= thing <= 4)
                           or isinstance(thing, bool) else (PLAIN, None))
            if thing != () or isinstance(thing, list):
                self.table(1, (PLAIN, put(PLAIN, 2, thing)))
            self.table(1, (PLAIN, put(PLAIN, 2, (thing,))))
            self.table(1, (PLAIN, put(PLAIN, 2, ((0, "ann"), (1, thing))) if thing != "ann" else None))
            self.refused(NoTable, 0, hold, HABITS, thing)


class Hold(Refused):
    def hold(self, told, habits, stay, *sendings):
        for day in (0, 40):
            found = hold(habits, (day, stay, sendings))
            self.assertEqual(found, told)
            self.assertNotIsInstance(found, bool)
        self.assertEqual(Plain(habits).hold(stay, sendings), told)

    def test_without_letters_it_stays(self):
        for habits in (STILL, SAYING, KEEPS, pair(), HABITS):
            for stay in range(1, 7):
                self.hold(stay, habits, stay)

    def test_behind_a_letter(self):
        for stay in range(1, 7):
            self.hold(max(stay, 3), STILL, stay, (0, "ann"))
            self.hold(max(stay, 4), SAYING, stay, (0, "ann"))
            self.hold(stay + 2, STILL, stay, (stay - 1, "ann"))
            self.hold(stay + 3, SAYING, stay, (stay - 1, "ann"))
        self.hold(5, STILL, 4, (0, "ann"), (1, "ann"), (2, "ann"))

    def test_by_names(self):
        self.assertEqual(hold(habits=STILL, thing=(0, 1, ((0, "ann"),))), 3)

    def test_for_ever(self):
        for stay in range(1, 7):
            self.hold(None, KEEPS, stay, (0, "ann"))
            self.hold(None, one_folk("saying"), stay, (stay - 1, "ann"))
            self.hold(None, pair(), stay, (0, "ann"))

    def test_told_on_and_lost(self):
        self.hold(3, pair(keep=1), 1, (0, "ann"))
        self.hold(2, pair(keep=1, steps=0), 1, (0, "ann"))
        self.hold(6, one_folk("still", 3, way("house", "ann", 1, 3, True, True)), 1, (0, "ann"))

    def test_just_400_stands_and_one_more(self):
        for habits, thing, many in ((JUST, JUST_THING, 400), (MORE, MORE_THING, 401)):
            self.assertEqual(self.stands(Plain(habits), *thing[1:]), many)
        self.hold(Plain(JUST).hold(*JUST_THING[1:]), JUST, *JUST_THING[1:2], *JUST_THING[2])
        self.refused(TooMany, 0, hold, MORE, MORE_THING)

    def stands(self, plain, stay, sendings):
        """How many stands all evenings' lots have, and all that comes of the one when the thing goes, each lot once."""
        evenings, counted = {plain.sent(plain.bare, letters_on(sendings, 0))}, set()
        for after in range(1, stay + 1):
            counted |= evenings
            mornings = {behind for lot in evenings for behind in plain.heard(lot).values()}
            evenings = {plain.sent(lot, letters_on(sendings, after)) for lot in mornings}
        for lot in evenings:
            counted |= set(plain.met(lot, most=1000))
        return sum(map(len, counted))

    def test_more_than_six_things_under_way(self):
        self.refused(TooMany, 0, hold, SLOW, TOO_MUCH)
        self.refused(TooMany, 0, hold, SLOW, put(TOO_MUCH, 2, TOO_MUCH[2][:7]))
        self.hold(5, SLOW, 3, *TOO_MUCH[2][:6])

    def test_a_morning_ahead_of_letters_that_would_be_none(self):
        # Three letters come on one day; each may be told on to both others, and burnt.
        round_about = several("ann", "bob", "cyd", ways=tuple(
            way(*ends) for ends in (("ann", "bob"), ("ann", "cyd"), ("bob", "ann"), ("bob", "cyd"), ("cyd", "ann"),
                                    ("cyd", "bob"))))
        silent = Habits(tuple((one[0], "still", 1) for one in round_about.folk), round_about.ways)
        sendings = ((0, "ann"), (0, "bob"), (0, "cyd"))
        for habits, longest in ((round_about, 9), (silent, 6)):
            (morning,) = Plain(habits).stands_heard((((-1,) * 3, tuple(letter(at) for at in (0, 2, 4))),)).values()
            self.assertEqual(max(len(stand[1]) for stand in morning), longest)
            self.assertGreater(len(morning), 300)
            for more in ((), ((1, "ann"),), ((1, "ann"), (1, "bob"))):
                self.refused(TooMany, 0, hold, habits, (0, 2, sendings + more))
                self.refused(TooMany, 1, fewest, habits, ((0, 1, ()), (0, 2, sendings + more)))
        self.hold(3, Habits(silent.folk, silent.ways, steps=0), 2, *sendings, (1, "ann"))

    def test_refused_with_the_thing_number(self):
        plain = (0, 1, ())
        for number in range(6):
            for told in (fewest, fewest_paper, lambda *things: shows_fewest(*things, None)):
                self.refused(TooMany, number, told, SLOW, put((plain,) * 6, number, TOO_MUCH))
                self.refused(TooMany, number, told, SLOW, (plain,) * number + (TOO_MUCH,) * (6 - number))
                self.refused(NoTable, 5, told, SLOW, (TOO_MUCH,) * 5 + (None,))

    def test_no_table_ahead_of_too_many(self):
        self.refused(NoTable, 0, hold, SLOW, put(TOO_MUCH, 0, 41))
        self.refused(NoTable, -1, fewest, SLOW, (TOO_MUCH,) * 7)
        self.assertIsNone(look_table(SLOW, (TOO_MUCH,)))


class Fewest(Refused):
    def fewest(self, told, habits, *table):
        found = fewest(habits, table)
        self.assertEqual(found, told)
        self.assertNotIsInstance(found, bool)
        paper = fewest_paper(habits, table)
        self.assertIsInstance(paper, tuple)
        self.assertEqual(len(paper[1]), told)
        self.assertIs(shows_fewest(habits, table, paper), True)

    def test_one_thing(self):
        self.fewest(1, STILL, (0, 1, ()))
        self.fewest(1, KEEPS, (40, 6, ((0, "ann"),)))

    def test_things_that_meet(self):
        letters = ((0, "ann"),)
        for later, told in ((0, 2), (1, 2), (2, 2), (3, 1), (4, 1), (40, 1)):
            self.fewest(told, STILL, (0, 1, letters), (later, 1, ()))
            self.fewest(told, STILL, (later, 1, letters), (0, 1, letters))
        self.fewest(2, STILL, (0, 1, letters), (2, 1, letters), (4, 1, letters), (6, 1, letters))
        self.fewest(3, STILL, (0, 1, letters), (1, 1, letters), (2, 1, letters), (3, 1, letters), (4, 1, letters))
        self.fewest(1, STILL, (0, 1, letters), (3, 1, letters), (6, 1, letters), (9, 1, letters))

    def test_for_ever(self):
        self.fewest(2, KEEPS, (0, 1, ((0, "ann"),)), (40, 1, ()))
        self.fewest(6, KEEPS, *[(day, 1, ((0, "ann"),)) for day in (40, 0, 8, 16, 24, 32)])
        self.fewest(4, KEEPS, (0, 1, ((0, "ann"),)), (5, 2, ()), (6, 1, ()), (40, 6, ()), (20, 1, ((0, "ann"),)),
                    (40, 1, ()))

    def test_alike_things(self):
        for many in range(1, 7):
            self.fewest(many, STILL, *[(7, 2, ((0, "ann"),))] * many)

    def test_by_names(self):
        self.assertEqual(fewest(habits=STILL, table=((0, 1, ()),)), 1)
        self.assertEqual(fewest_paper(habits=STILL, table=((0, 1, ()),)), (0, (0,)))
        self.assertIs(shows_fewest(habits=STILL, table=((0, 1, ()),), paper=(0, (0,))), True)


class Papers(Refused):
    TABLE = ((0, 1, ((0, "ann"),)), (9, 1, ()), (2, 4, ()), (1, 1, ()), (20, 6, ((5, "ann"),)), (3, 2, ()))

    def shows(self, told, paper, habits=STILL, table=TABLE):
        self.assertIs(shows_fewest(habits, table, paper), told)

    def test_days_and_numbers(self):
        # There are 0 on the days 0 to 2, 1 on 9, 2 on 2 to 5, 3 on 1, 4 on 20 to 27, 5 on 3 and 4.
        self.assertEqual([hold(STILL, thing) for thing in self.TABLE], [3, 1, 4, 1, 8, 2])
        self.assertEqual(fewest(STILL, self.TABLE), 2)
        for day, numbers in ((1, (0, 3)), (2, (0, 2)), (3, (2, 5)), (4, (2, 5))):
            self.shows(True, (day, numbers))
            self.shows(False, (day, numbers[::-1]))
            self.shows(False, (day, list(numbers)))
            self.shows(False, [day, numbers])
            self.shows(False, (day, numbers[:1]))
            self.shows(False, (day, numbers[1:]))
            self.shows(False, (day, numbers + (5,)))
            self.shows(False, (day, (numbers[0],) + numbers))
            self.shows(False, (day, numbers, ()))
            self.shows(False, (str(day), numbers))

    def test_bent(self):
        for day, numbers in ((0, (0,)), (0, (0, 3)), (1, (0, 2)), (2, (0, 3)), (2, (0, 2, 3)), (5, (2, 5)), (5, (2,)),
                             (9, (1,)), (20, (4,)), (27, (4, 5)), (1, ()), (-1, ()), (100, ()), (1, (0, 6)),
                             (1, (-1, 3)),
                             (True, (0, 3)), (1, (False, 3)), (2, (0, "2")), (None, (0, 2)), (2, None), (2, (0, None))):
            self.shows(False, (day, numbers))
        for thing in (None, (), (2,), "paper", 2, ((2, (0, 2)),), {}, (2, 0, 2), ((0, 2), 2)):
            self.shows(False, thing)

    def test_far_days_of_what_is_there_for_ever(self):
        table = ((0, 1, ((0, "ann"),)), (40, 1, ((0, "ann"),)), (7, 1, ()))
        for day, told in ((0, False), (7, True), (8, False), (39, False), (40, True), (41, True), (10 ** 79, True)):
            numbers = (0, 2) if day == 7 else (0, 1)
            self.shows(told, (day, numbers), KEEPS, table)

    def test_truths_are_no_numbers(self):
        table = ((0, 1, ()), (0, 1, ()))
        self.shows(True, (0, (0, 1)), STILL, table)
        for paper in ((False, (0, 1)), (0, (False, 1)), (0, (0, True)), (0, (False, True))):
            self.shows(False, paper, STILL, table)
        self.shows(True, (1, (0,)), STILL, ((1, 1, ()),))
        self.shows(False, (True, (0,)), STILL, ((1, 1, ()),))

    def test_each_that_is_right(self):
        for table in (self.TABLE, self.TABLE[::-1], self.TABLE[:3]):
            holds = [hold(STILL, thing) for thing in table]
            rows = [tuple(n for n, thing in enumerate(table) if thing[0] <= day < thing[0] + holds[n])
                    for day in range(60)]
            most = max(map(len, rows))
            for day, row in enumerate(rows):
                self.shows(len(row) == most, (day, row), STILL, table)
                self.shows(False, (day, row[:-1]), STILL, table)

    def test_any_thing(self):
        for thing in any_things() + [nested(9, (2, (0, 2)))]:
            self.shows(False, thing)
            self.shows(False, (2, thing))
            self.shows(isinstance(thing, int) and not isinstance(thing, bool) and thing == 2, (thing, (0, 2)))
            self.shows(False, (2, (0, 2, thing)))
            self.shows(isinstance(thing, int) and not isinstance(thing, bool) and thing == 2, (2, (0, thing)))

    def test_no_table_ahead_of_any(self):
        for thing in (None, (0, (0,)), ()):
            self.refused(NoTable, -1, shows_fewest, STILL, (), thing)
            self.refused(TooMany, 0, shows_fewest, SLOW, (TOO_MUCH,), thing)
        self.refused(TooMany, 1, fewest, triple(loses=True), ((0, 1, ()), (0, 3, tuple(
            (after, text) for after in range(3) for text in ("ann", "bob", "cyd")))))


if __name__ == "__main__":
    unittest.main()
