"""Point 21: a desk, each row and what it answers, and what it refuses."""

import unittest

from cases import Refused, story
from nameagain.asks import fewest_asks, soonest
from nameagain.desk import Desk
from nameagain.errors import (Again, Full, NoDeeds, NoHabits, NoHeard, NoName, NoRun, NoSaying, NotHeld, NoText,
                              Nothing, NoWay, TooMany)
from nameagain.habits import Habits
from nameagain.house import House
from nameagain.late import late
from nameagain.lots import may_be, must_be
from nameagain.texts import show_habits
from samples import any_things, one_folk, several, way

STILL, SAYING, KEEPS = one_folk("still", 2), one_folk("saying", 2), one_folk("still")
# bob has no way from the house, cyd is still.
HABITS = Habits(
    (("ann", "saying", 2), ("bob", "saying", 1), ("cyd", "still", 1)),
    (way("house", "ann"), way("house", "cyd", 1, 2, True), way("ann", "house"), way("bob", "house"),
     way("cyd", "house"), way("ann", "bob")))


def desk(habits, *rows, many=4):
    """A desk of these habits to which these rows were said."""
    made = Desk(show_habits(habits), many)
    for row in rows:
        made.say(row)
    return made


def stands(made):
    """All that a desk tells, as it stands."""
    names = made.say("names").split(" ")
    told = [made.say("day"), names]
    return told + [[made.say(f"{word} {name}") for word in ("may", "must")] for name in range(len(names))]


class Desks(Refused):
    def said(self, made, *rows):
        """Rows and answers by turns: each is said and answered so."""
        for row, answer in zip(rows[::2], rows[1::2]):
            told = made.say(row)
            self.assertEqual((row, told), (row, answer))
            self.assertIs(type(told), str)

    def kept(self, made, error, field, worth, row):
        """The row is refused, and nothing is changed by it."""
        ahead = story(made.house)
        self.refused_by(error, field, worth, made.say, row)
        self.assertEqual(story(made.house), ahead)


class Made(Desks):
    def test_many_names(self):
        text = show_habits(STILL)
        for many in range(1, 9):
            self.said(Desk(text, many), "names", " ".join(["free"] * many), "day", "0")
        self.said(Desk(text), "names", "free free free free")
        self.said(Desk(text=text, many=2), "names", "free free")

    def test_no_such_many(self):
        text = show_habits(STILL)
        for many in [0, 9, -1, True, False, None, "4", (4,), STILL]:
            self.refused_by(NoHabits, "where", "many", Desk, text, many)
        for thing in any_things():
            if isinstance(thing, bool) or not isinstance(thing, int) or not 1 <= thing <= 8:
                self.refused_by(NoHabits, "where", "many", Desk, text, thing)

    def test_no_text(self):
        for line, text in ((0, None), (0, STILL), (0, ()), (0, [show_habits(STILL)]), (1, ""), (1, "steps 1"),
                           (2, "steps 1\n"), (2, "steps 1\nfolk ann still 02\nway ann house 1 1"),
                           (0, "steps 1\n" * 41), (1, "steps 3\nfolk ann still 2\nway ann house 1 1")):
            self.refused_by(NoText, "line", line, Desk, text)
        for thing in any_things():
            self.refused_by(NoText, "line", 1 if isinstance(thing, str) else 0, Desk, thing)

    def test_no_text_ahead_of_no_habits(self):
        for many in (0, None, True, 9):
            self.refused_by(NoText, "line", 0, Desk, None, many)
            self.refused_by(NoText, "line", 1, Desk, "", many)
            self.refused_by(NoText, "line", 1, Desk, "steps 1", many)


class Rows(Desks):
    def test_come(self):
        made = desk(HABITS)
        self.said(made, "come", "0", "come ann", "1", "come ann cyd", "2", "come cyd", "3")
        house = House(HABITS)
        for letters in ((), ("ann",), ("ann", "cyd"), ("cyd",)):
            house.come(letters=letters)
        self.assertTrue(made.house == house)

    def test_go_send_ask(self):
        made, house = desk(HABITS, "come", "come"), House(HABITS)
        house.come()
        house.come()
        self.said(made, "send 0 ann", "ok", "ask 0 cyd", "ok", "send 1 cyd", "ok", "go 0", "ok", "ask 0 ann", "ok")
        house.send(0, "ann")
        house.ask(0, "cyd")
        house.send(1, "cyd")
        house.go(0)
        house.ask(0, "ann")
        self.assertTrue(made.house == house)

    def test_night(self):
        made = desk(SAYING, "come ann", "come ann", "go 0", "go 1")
        self.said(made, "night", "-", "day", "1", "night 0:ann:burnt 1:ann:burnt", "0 1", "day", "2",
                  "names", "free free free free", "night", "-", "day", "3")
        made = desk(several("ann", "bob", keep=2), "come ann bob", "come ann", "night", "go 0", "go 1")
        self.said(made, "night 0:ann:burnt 0:bob:burnt", "0", "names", "free left free free", "night 1:ann:burnt", "1")
        made = desk(SAYING, "come", "ask 0 ann", "night", "night 0:ann:none")
        self.said(made, "names", "held free free free", "may 0", "-")

    def test_alike_words(self):
        habits = one_folk("saying", None, out=way("house", "ann", 1, 2))
        made = desk(habits, "come", "ask 0 ann", "night", "ask 0 ann", "night")
        self.said(made, "go 0", "ok", "night 0:ann:none 0:ann:none", "0")

    def test_more_names_in_order(self):
        made = desk(STILL, *["come ann"] * 8, *[f"go {name}" for name in (7, 2, 0)], "night", "night", many=8)
        self.said(made, "night", "0 2 7", "names", "free held free held held held held free")

    def test_back(self):
        made = desk(SAYING, "come ann", "night", "go 0")
        self.said(made, "back", "ok", "names", "held free free free", "back", "ok", "day", "0", "back", "ok",
                  "names", "free free free free")
        self.kept(made, Nothing, None, None, "back")

    def test_names(self):
        self.said(desk(STILL, "come", "come ann", "come ann", "go 2", many=5), "names", "held held left free free")

    def test_places(self):
        made = desk(HABITS, "come ann")
        self.said(made, "may 0", "house>ann", "must 0", "house>ann", "may 1", "-", "must 1", "-")
        made.say("night")
        self.said(made, "may 0", "ann ann>house ann>bob", "must 0", "-")
        made.say("night")
        self.said(made, "may 0", "ann bob ann>house bob>house", "must 0", "-")
        made = desk(HABITS, "come cyd")
        self.said(made, "may 0", "house>cyd", "must 0", "-")
        made = desk(KEEPS, "come ann", "ask 0 ann")
        self.said(made, "may 0", "house>ann", "must 0", "house>ann")
        for rows in ((), ("come ann", "night"), ("come ann cyd", "ask 0 ann", "night", "night 0:ann:none")):
            made = desk(HABITS, *rows)
            for word, told in (("may", may_be), ("must", must_be)):
                places = told(HABITS, made.house.lot(0))
                self.said(made, f"{word} 0", " ".join(">".join(place) for place in places) or "-")

    def test_late_soonest_fewest(self):
        self.said(desk(STILL, "come ann"), "late 0", "3", "soonest 0", "2", "fewest 0", "0", "late 1", "0",
                  "soonest 1", "0", "fewest 3", "0")
        self.said(desk(KEEPS, "come ann"), "late 0", "never", "soonest 0", "2", "fewest 0", "1")
        losing = one_folk("still", out=way("house", "ann", 1, 1, True))
        self.said(desk(losing, "come ann"), "late 0", "never", "soonest 0", "never", "fewest 0", "never")
        for habits in (SAYING, several("ann", "bob", keep=2), one_folk("saying", 3)):
            made = desk(habits, "come ann", "night")
            lot = made.house.lot(0)
            for word, told in (("late", late), ("soonest", soonest), ("fewest", fewest_asks)):
                self.said(made, f"{word} 0", str(told(habits, lot)))

    def test_what_is_asked_changes_nothing(self):
        made = desk(HABITS, "come ann", "night")
        ahead = story(made.house)
        for row in ("day", "names", "may 0", "must 0", "late 1", "soonest 1", "fewest 1"):
            made.say(row)
        for row in ("soonest 0", "fewest 0", "late 0"):
            self.refused_or_told(made, row)
        self.assertEqual(story(made.house), ahead)

    def refused_or_told(self, made, row):
        try:
            self.assertIsInstance(made.say(row), str)
        except TooMany as error:
            self.assertEqual(error.at, 0)

    def test_by_name(self):
        self.assertEqual(desk(STILL).say(row="day"), "0")


class NoSayings(Desks):
    def kept_all(self, *rows):
        made = desk(HABITS, "come ann", "night", "go 0", "come")
        for row in rows:
            self.kept(made, NoSaying, None, None, row)

    def test_other_words(self):
        self.kept_all("", "stay", "Come", "COME", "comes", "com", "0", "-", "ok", "hold 0", "twin", "lot 0", "len", "?")
        self.kept_all("night!", "come,ann", "back()", "names?", "come/ann", "day 0", "names 0", "back 0", "back back")

    def test_words_left_out(self):
        self.kept_all("go", "send", "send 0", "ask", "ask 0", "may", "must", "late", "soonest", "fewest", "send ann")

    def test_words_too_many(self):
        self.kept_all("go 0 0", "send 0 ann ann", "send 0 0 ann", "ask 0 ann cyd", "back 1", "day day", "names names",
                      "may 0 0", "must 0 ann", "late 0 1", "soonest 0 0", "fewest 0 -", "go 0 go 0")

    def test_words_exchanged(self):
        self.kept_all("0 go", "ann come", "send ann 0", "ask ann 0", "0 send ann", "0 late",
                      "0:ann:none night", "0 may")

    def test_blanks(self):
        for row in ("come", "come ann", "go 1", "send 1 ann", "ask 0 ann", "night", "night 0:ann:burnt", "back", "day",
                    "names", "may 0", "must 0", "late 0", "soonest 0", "fewest 0"):
            self.kept_all(" " + row, row + " ", row + "\n", "\n" + row, row + "\t", row + " \n")
            if " " in row:
                self.kept_all(row.replace(" ", "  "), row.replace(" ", "\t"), row.replace(" ", "\n"),
                              row.replace(" ", ""), row.replace(" ", "  ", 1))
        self.kept_all(" ", "  ", "\n", "come ann\ncome")

    def test_numbers(self):
        for number in ("00", "01", "-1", "+1", "1.", "1.0", "0x1", "one", "", "-", "1_0", "0 0", "0,", "ann", "True",
                       "None"):
            for word in ("go", "may", "must", "late", "soonest", "fewest"):
                self.kept_all(f"{word} {number}")
            self.kept_all(f"send {number} ann", f"ask {number} ann", f"night {number}:ann:burnt")

    def test_texts(self):
        for text in ("house", "Ann", "a1", "annannann", "", "-", "0", "ann,", "ann.", "a>b", "an-n", "~"):
            self.kept_all(f"come {text}", f"come ann {text}", f"send 1 {text}", f"ask 0 {text}",
                          f"night 0:{text}:burnt")

    def test_what_is_heard(self):
        self.kept_all("night 0", "night ann", "night 0:ann", "night 0:ann:", "night 0:ann:letter", "night 0:ann:ask",
                      "night 0:ann:Burnt", "night 0:ann:burnt:", "night 0:ann:burnt:0", "night ann:0:burnt",
                      "night 0 ann none",
                      "night 0:ann:none, 1:ann:none", "night 0:ann:none,1:ann:none", "night -", "night :ann:burnt",
                      "night 0::burnt", "night ::", "night 0:ann: burnt", "night 0: ann:burnt", "night 0;ann;burnt",
                      "night 0:ann:burnt 0", "night 0:ann:burnt none")

    def test_ahead_of_other_refusals(self):
        made = desk(STILL, many=1)
        self.kept(made, NoSaying, None, None, "go 9 9")
        self.kept(made, NoSaying, None, None, "send 9 Ann")
        self.kept(made, NoSaying, None, None, "night 9:ann:none 0:ann:lost")
        made.say("come")
        self.kept(made, NoSaying, None, None, "come Ann")
        self.kept(made, NoSaying, None, None, "come bob house")

    def test_other_kinds_of_things(self):
        made = desk(HABITS, "come ann")
        for thing in any_things() + [made, made.house, b"day", ["day"], ("day",), ("come", "ann")]:
            self.kept(made, NoSaying, None, None, thing)


class HandedOn(Desks):
    def test_come(self):
        made = desk(HABITS, "come", many=2)
        for row in ("come bob", "come cyd ann", "come ann ann", "come zed", "come ann bob", "come ann cyd cyd"):
            self.kept(made, NoDeeds, None, None, row)
        made.say("come")
        self.kept(made, NoDeeds, None, None, "come cyd ann")
        self.kept(made, Full, None, None, "come")
        self.kept(made, Full, None, None, "come ann")

    def test_no_name(self):
        made = desk(HABITS, "come", many=3)
        for number in (3, 9, 10, 10 ** 80, int("7" * 500)):
            for row in ("go {}", "send {} ann", "ask {} ann", "send {} zed", "may {}", "must {}", "late {}",
                        "soonest {}", "fewest {}"):
                self.kept(made, NoName, "name", number, row.format(number))

    def test_not_held_no_way_again(self):
        made = desk(HABITS, "come ann", "come ann", "ask 0 ann", "go 1")
        for row in ("go 1", "go 2", "send 1 ann", "send 2 cyd", "ask 2 ann", "ask 3 bob"):
            self.kept(made, NotHeld, "name", int(row.split(" ")[1]), row)
        for row in ("send 0 bob", "ask 0 bob", "ask 1 bob", "send 0 zed", "ask 1 zed"):
            self.kept(made, NoWay, "text", row.split(" ")[2], row)
        for row in ("send 0 ann", "ask 0 ann"):
            self.kept(made, Again, "text", "ann", row)

    def test_night(self):
        made = desk(HABITS, "come ann", "come", many=2)
        for row in ("night 0:cyd:none", "night 2:ann:none", "night 0:zed:none", "night 1:ann:none 0:ann:none",
                    "night 0:ann:none 0:ann:burnt", "night 99999999999:ann:none"):
            self.kept(made, NoHeard, None, None, row)
        for row, at in (("night 0:ann:burnt", 0), ("night 1:bob:none", 1), ("night 0:bob:none 1:ann:none", 0)):
            self.kept(made, NoRun, "at", at, row)

    def test_too_many(self):
        slow = several("ann", "bob", "cyd", kind="still")
        slow = Habits(slow.folk, tuple(one[:2] + (3, 3) + one[4:] for one in slow.ways))
        rows = [f"{word} 1 {text}" for text in ("ann", "bob", "cyd") for word in ("send", "ask")]
        made = desk(slow, "come", "come", *rows, "night")
        self.kept(made, TooMany, "at", 1, "send 1 ann")
        self.kept(made, TooMany, "at", 1, "ask 1 cyd")
        self.kept(made, TooMany, "at", 0, "soonest 1")
        self.kept(made, TooMany, "at", 0, "fewest 1")
        self.said(made, "late 1", "3")
        made = desk(several("ann", "bob", "cyd", ways=(way("ann", "bob"),)), "come", "come", *rows)
        self.kept(made, TooMany, "at", 1, "night")
        self.kept(made, TooMany, "at", 0, "late 1")

    def test_a_desk_goes_on_behind_refusals(self):
        made = desk(SAYING, many=1)
        for row in ("come ann", "come", "night 0:ann:burnt", "go 1", "nigth", "night", "go 0", "send 0 ann", "back",
                    "go 0", "night 0:ann:burnt"):
            try:
                answer = made.say(row)
            except (NoSaying, Full, NoRun, NoName, NotHeld):
                answer = None
        self.assertEqual((answer, stands(made)), ("0", ["2", ["free"], ["-", "-"]]))


class Alone(Desks):
    def test_two_desks_share_nothing(self):
        one, other = desk(STILL), desk(STILL)
        one.say("come ann")
        self.said(other, "names", "free free free free", "day", "0")
        self.kept(other, Nothing, None, None, "back")

    def test_nothing_hangs_on_what_was_asked(self):
        one, other = desk(HABITS), desk(HABITS)
        for row in ("come ann", "night", "send 0 cyd", "ask 0 ann", "go 0", "night 0:ann:burnt"):
            for asked in ("names", "may 0", "must 0", "day", "late 1"):
                one.say(asked)
            self.assertEqual(one.say(row), other.say(row))
        self.assertEqual(stands(one), stands(other))


if __name__ == "__main__":
    unittest.main()
