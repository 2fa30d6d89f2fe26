"""Point 20: habits, hearings and books, written and read."""

import random
import unittest

from cases import Refused
from nameagain.errors import NoBook, NoText
from nameagain.habits import Habits
from nameagain.house import House
from nameagain.texts import read_book, read_habits, show_book, show_habits, show_heard
from samples import QUIET, any_things, day, hears, one_folk, pair, sends, several, triple, wants, way
from test_days_plain import chance_habits
from test_lots_plain import chance_book

HABITS = Habits(
    (("ann", "saying", 2), ("bob", "still", None)),
    (way("house", "ann", 1, 2, True, True), way("ann", "house"), way("bob", "house", 2, 3, True),
     way("ann", "bob", 3, 3), way("house", "bob", 1, 1, False, True)), steps=2)
LINES = ["steps 2", "folk ann saying 2", "folk bob still -", "way house ann 1 2 loses twice", "way ann house 1 1",
         "way bob house 2 3 loses", "way ann bob 3 3", "way house bob 1 1 twice"]
TEXT = "\n".join(LINES)
BURNT, NONE = ("ann", "burnt"), ("ann", "none")
BOOK = (day((), ("ann", "bob"), ("ann",)), QUIET, day((BURNT, NONE, NONE), (), ("ann", "bob")), hears(NONE))
BOOK_LINES = ["- / ann bob / ann", "- / - / -", "ann burnt, ann none, ann none / - / ann bob", "ann none / - / -"]


class Shown(Refused):
    def test_habits(self):
        self.assertEqual(show_habits(HABITS), TEXT)
        self.assertEqual(show_habits(habits=one_folk("still", 3, steps=0)),
                         "steps 0\nfolk ann still 3\nway house ann 1 1\nway ann house 1 1")

    def test_hearings(self):
        self.assertEqual(show_heard(()), "-")
        self.assertEqual(show_heard((BURNT,)), "ann burnt")
        self.assertEqual(show_heard(heard=(BURNT, NONE, NONE, ("bob", "burnt"))),
                         "ann burnt, ann none, ann none, bob burnt")

    def test_books(self):
        self.assertEqual(show_book(HABITS, BOOK), "\n".join(BOOK_LINES))
        self.assertEqual(show_book(habits=HABITS, book=(QUIET,)), "- / - / -")
        self.assertEqual(show_book(HABITS, (QUIET,) * 30), "\n".join(["- / - / -"] * 30))

    def test_no_book(self):
        for at, book in ((-1, ()), (-1, (QUIET,) * 31), (-1, [QUIET]), (0, (None,)), (0, (hears(NONE),)),
                         (1, (QUIET, hears(("bob", "none")))), (2, (QUIET, QUIET, sends("cyd")))):
            self.refused(NoBook, at, show_book, HABITS, book)
        for thing in any_things():
            self.refused(NoBook, None, show_book, HABITS, thing)


def bent(chance, text):
    """The text with a sign, a word or a line put otherwise."""
    kind = chance.choice(("sign", "word", "word", "line", "line"))
    if kind == "sign":
        at, many = chance.randrange(len(text) + 1), chance.choice((0, 1, 1, 2))
        more = chance.choice(("", " ", "-", "1", "0", "a", ",", "/", "\n", " / ", "ann", "none", text[at:at + 3]))
        return text[:at] + more + text[at + many:]
    lines = text.split("\n")
    at = chance.randrange(len(lines))
    if kind == "word":
        words = lines[at].split(" ")
        words[chance.randrange(len(words))] = chance.choice(text.replace("\n", " ").split(" ") + ["1", "3", "none"])
        lines[at] = " ".join(words)
    else:
        other = chance.randrange(len(lines))
        lines[at], lines[other:other + 1] = lines[other], chance.choice(([], [lines[at]], [lines[at], lines[other]]))
    return "\n".join(lines)


class Bent(unittest.TestCase):
    """What is read is written so: of texts bent by chance, too."""

    def test_habits(self):
        chance, read = random.Random(2020), 0
        for _ in range(4000):
            text = bent(chance, TEXT)
            try:
                habits = read_habits(text)
            except NoText as error:
                self.assertTrue(1 <= error.line <= len(text.split("\n")))
                continue
            self.assertEqual(show_habits(habits), text)
            read += text != TEXT
        self.assertGreater(read, 100)

    def test_books(self):
        chance, read = random.Random(2021), 0
        text_of_all = "\n".join(BOOK_LINES)
        for _ in range(4000):
            text = bent(chance, text_of_all)
            try:
                book = read_book(HABITS, text)
            except NoText as error:
                self.assertTrue(1 <= error.line <= len(text.split("\n")))
                continue
            self.assertEqual(show_book(HABITS, book), text)
            read += text != text_of_all
        self.assertGreater(read, 50)


class ReadHabits(Refused):
    def line(self, number, text):
        with self.assertRaises(NoText) as caught:
            read_habits(text)
        self.assertEqual(caught.exception.line, number)
        self.assertIs(type(caught.exception.line), int)

    def bent(self, number, at, line):
        """The habits with one line put otherwise."""
        self.line(number, "\n".join(LINES[:at] + [line] + LINES[at + 1:]))

    def test_read_back(self):
        for habits in (HABITS, one_folk(), pair(), triple(), several("ann", "bob", "cyd"),
                       Habits((("zzzzzzzz", "still", 1), ("a", "saying", None)),
                              (way("zzzzzzzz", "house"), way("a", "house")), steps=0)):
            told = read_habits(show_habits(habits))
            self.assertIsInstance(told, Habits)
            self.assertEqual(told, habits)
            self.assertEqual(show_habits(told), show_habits(habits))
        self.assertEqual(read_habits(text=TEXT), HABITS)
        self.assertEqual([type(one) for one in read_habits(TEXT).ways[0]], [str, str, int, int, bool, bool])

    def test_chance_habits(self):
        chance = random.Random(20)
        for _ in range(200):
            habits = chance_habits(chance)
            self.assertEqual(read_habits(show_habits(habits)), habits)

    def test_no_text(self):
        for thing in any_things() + [House(HABITS), b"steps 1", LINES]:
            if not isinstance(thing, str):
                self.line(0, thing)
            else:
                self.line(1, thing)

    def test_forty_lines_and_more(self):
        self.line(2, "\n".join(["steps 1"] * 40))
        self.line(0, "\n".join(["steps 1"] * 41))
        self.line(0, "\n" * 40)
        self.line(1, "\n" * 39)
        self.line(0, TEXT + "\n" * 33)
        self.line(9, TEXT + "\n" * 32)
        many = ["steps 1"] + ["folk ann saying 1"] * 20 + ["way ann house 1 1"] * 19
        self.line(1, "\n".join(many))
        self.line(0, "\n".join(many + many[-1:]))
        self.line(40, "\n".join(many[:-1] + ["way"]))

    def test_blank_lines(self):
        self.line(1, "")
        self.line(1, "\n" + TEXT)
        self.line(9, TEXT + "\n")
        for at in range(1, 8):
            self.line(at + 1, "\n".join(LINES[:at] + [""] + LINES[at:]))

    def test_words(self):
        for at, line in ((0, "step 2"), (0, "Steps 2"), (0, "steps"), (0, "steps 2 2"), (0, "2"), (0, "steps two"),
                         (1, "folks ann saying 2"), (1, "folk ann saying"), (1, "folk ann saying 2 2"), (1, "folk"),
                         (1, "ann saying 2"), (2, "folk bob still None"), (2, "folk bob still --"),
                         (2, "folk bob still"),
                         (3, "ways house ann 1 2"), (3, "way house ann 1"), (3, "way house ann"), (3, "way"),
                         (3, "way house ann 1 2 twice loses"), (3, "way house ann 1 2 loses loses"),
                         (3, "way house ann 1 2 twice twice"), (3, "way house ann 1 2 lost"),
                         (3, "way house ann 1 2 loses twice loses"), (3, "way house ann 1 2 loses twice 3"),
                         (3, "way house ann 1 2 Loses"), (3, "way house ann 1 2 3"), (7, "way house bob 1 1 two")):
            self.bent(at + 1, at, line)

    def test_blanks(self):
        for at in range(8):
            self.bent(at + 1, at, " " + LINES[at])
            self.bent(at + 1, at, LINES[at] + " ")
            self.bent(at + 1, at, "steps  2" if at == 0 else LINES[at][:-2] + "  " + LINES[at][-2:])
            self.bent(at + 1, at, LINES[at].replace(" ", "", 1))
            self.bent(at + 1, at, LINES[at].replace(" ", "\t", 1))
        self.bent(4, 3, "way house ann 1 2  loses twice")
        self.bent(4, 3, "way house ann 1 2 loses  twice")
        self.bent(4, 3, "way house ann  1 2")
        self.bent(4, 3, "way house ann 1  2")
        self.bent(2, 1, "folk ann saying  2")

    def test_figures(self):
        for number in ("02", "00", "+2", "-2", "2.", "2.0", "0x2", "1_0", "two", "2a", "", "-", "--"):
            self.bent(1, 0, "steps " + number)
            self.bent(5, 4, f"way ann house {number} 1")
            self.bent(5, 4, f"way ann house 1 {number}")
            if number != "-":
                self.bent(2, 1, "folk ann saying " + number)

    def test_numbers_that_are_a_matter_of_all_lines(self):
        for number in ("3", "4", "10", "9" * 80, "1" + "0" * 900, "7" * 1900):
            self.bent(1, 0, "steps " + number)
            self.bent(1, 4, f"way ann house 1 {number}" if number != "3" else "way ann house 1 4")
            self.bent(1, 4, f"way ann house {number} 1")
            self.bent(1, 1, "folk ann saying " + (number if number != "3" else "0"))
        self.bent(1, 4, "way ann house 0 1")
        self.bent(1, 4, "way ann house 2 1")
        # A line that is none comes first, wherever it stands.
        for bad in ("way", "", "folk cyd still 1", "steps 1"):
            self.line(9, "\n".join(["steps 9"] + LINES[1:] + [bad]))

    def test_texts_that_are_a_matter_of_all_lines(self):
        for text in ("house", "Ann", "annannann", "a1", "a-b", "a/b", "-", "1", "", "bob", "steps", "~"):
            self.bent(1, 1, f"folk {text} saying 2")
            self.bent(1, 3, f"way house {text} 1 2" if text != "bob" else "way ann bob 1 2")
        for kind in ("Saying", "silent", "", "2", "-"):
            self.bent(1, 1, f"folk ann {kind} 2")
        self.line(1, "steps 1\nfolk  still 1\nway  house 1 1")
        self.line(2, "steps 1\nfolk still 1\nway  house 1 1")
        self.line(3, "steps 1\nfolk  still 1\nway house 1 1")

    def test_habits_that_would_be_refused(self):
        self.line(1, "steps 1")
        self.line(1, "steps 1\nfolk ann saying 1")
        self.line(1, "steps 1\nway ann house 1 1")
        self.line(1, "\n".join(LINES[:4] + LINES[5:]))
        self.line(1, "\n".join(LINES + ["way house ann 1 1"]))
        self.line(1, "\n".join(LINES + ["way ann house 1 1 twice"]))
        self.line(1, "\n".join(LINES[:3] + ["folk ann still 1"] + LINES[3:]))
        self.line(1, "\n".join(LINES[:3] + ["folk cyd still 1", "folk dan still 1"] + LINES[3:]))
        self.line(1, "\n".join([LINES[0], LINES[1]] + LINES[3:]))
        self.assertEqual(read_habits("\n".join([LINES[0], LINES[2], LINES[1]] + LINES[3:])).folk, HABITS.folk[::-1])

    def test_lines_out_of_place(self):
        self.line(1, "\n".join(LINES[1:]))
        self.line(1, "\n".join(LINES[1:2] + LINES[:1] + LINES[2:]))
        for at in range(1, 8):
            self.line(at + 1, "\n".join(LINES[:at] + ["steps 2"] + LINES[at:]))
        for at in range(4, 9):
            self.line(at + 1, "\n".join(LINES[:at] + ["folk cyd still 1"] + LINES[at:]))
        for at in range(1, 3):
            self.line(at + 2, "\n".join(LINES[:at] + ["way ann house 1 1"] + LINES[at:]))

    def test_the_first_line_that_is_none(self):
        for at in range(8):
            self.line(at + 1, "\n".join(LINES[:at] + ["?"] * (8 - at)))
        self.line(3, "\n".join(LINES[:2] + ["folk"] + LINES[2:4] + LINES[:1]))


class ReadBook(Refused):
    def line(self, number, text, habits=HABITS):
        with self.assertRaises(NoText) as caught:
            read_book(habits, text)
        self.assertEqual(caught.exception.line, number)
        self.assertIs(type(caught.exception.line), int)

    def bent(self, at, line):
        self.line(at + 1, "\n".join(BOOK_LINES[:at] + [line] + BOOK_LINES[at + 1:]))

    def test_read_back(self):
        for habits, book in ((HABITS, BOOK), (HABITS, (QUIET,)), (HABITS, (QUIET,) * 30),
                             (one_folk(), (sends("ann"), hears(BURNT), wants("ann")))):
            told = read_book(habits, show_book(habits, book))
            self.assertEqual(told, book)
            self.assertIsInstance(told, tuple)
        self.assertEqual(read_book(habits=HABITS, text="\n".join(BOOK_LINES)), BOOK)

    def test_chance_books(self):
        chance = random.Random(201)
        for _ in range(60):
            habits = chance_habits(chance)
            book = chance_book(chance, habits)
            self.assertEqual(read_book(habits, show_book(habits, book)), book)

    def test_no_text(self):
        for thing in any_things() + [House(HABITS), b"- / - / -", BOOK, BOOK_LINES]:
            self.line(1 if isinstance(thing, str) else 0, thing)

    def test_thirty_lines_and_more(self):
        self.assertEqual(read_book(HABITS, "\n".join(["- / - / -"] * 30)), (QUIET,) * 30)
        self.line(0, "\n".join(["- / - / -"] * 31))
        self.line(0, "\n" * 30)
        self.line(1, "\n" * 29)
        self.line(30, "\n".join(["- / - / -"] * 29 + [""]))
        self.line(0, "\n".join(["?"] * 31))

    def test_blank_lines(self):
        self.line(1, "")
        self.line(5, "\n".join(BOOK_LINES + [""]))
        for at in range(4):
            self.line(at + 1, "\n".join(BOOK_LINES[:at] + [""] + BOOK_LINES[at:]))

    def test_lines_that_are_none(self):
        for line in ("-", "- / -", "- / - / - / -", "-/-/-", "- /- / -", "-  / - / -", "- / -  / -", " - / - / -",
                     "- / - / - ", "- / - /", "/ - / -", " /  / ", "- /  / -", "- / - / ", " / - / -", "- - / - / -",
                     "- / - - / -", "- / ann  bob / -", "- / ann, bob / -", "- / ann bob  / -", "- / - ann / -",
                     "ann none,ann none / - / -", "ann none , ann none / - / -", "ann none,  ann none / - / -",
                     "ann  none / - / -", "ann none, / - / -", "ann none, - / - / -", ", ann none / - / -",
                     "ann none ann none / - / -", "ann / - / -", "none / - / -", "ann none none / - / -",
                     "() / () / ()",
                     "- / ann / ann / ann", "?", "\t", "- / - / -\r"):
            for at in (1, 2, 3):
                self.bent(at, line)

    def test_days_that_are_none(self):
        for line in ("ann letter / - / -", "bob none / - / -", "cyd none / - / -", "house none / - / -",
                     "ann none, ann burnt / - / -", "Ann none / - / -", "- / bob ann / -", "- / ann ann / -",
                     "- / cyd / -", "- / house / -", "- / - / bob ann", "- / - / bob bob", "- / - / Ann"):
            for at in (1, 2, 3):
                self.bent(at, line)
        self.bent(0, "ann none / - / -")
        self.bent(0, "ann none / ann / -")
        self.assertEqual(read_book(HABITS, "- / - / -\nann none / - / -"), (QUIET, hears(NONE)))

    def test_of_other_habits(self):
        self.line(1, "\n".join(BOOK_LINES), one_folk())
        self.line(3, "\n".join(["- / ann / ann"] + BOOK_LINES[1:]), one_folk("still"))
        self.line(1, "- / bob / -", pair())

    def test_the_first_line(self):
        for at in range(4):
            self.line(at + 1, "\n".join(BOOK_LINES[:at] + ["?", "ann none, ann burnt / - / -"]))
            self.line(at + 1, "\n".join(BOOK_LINES[:at] + ["ann none, ann burnt / - / -", "?"]))

    def test_a_book_without_a_run_is_read(self):
        self.assertEqual(read_book(HABITS, "- / - / -\nann burnt / - / -"), (QUIET, hears(BURNT)))


if __name__ == "__main__":
    unittest.main()
