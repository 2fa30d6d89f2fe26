"""Point 8: the mornings of a stand, step by step."""

import unittest

from nameagain.days import bare, is_stand, mornings
from nameagain.errors import NoStand, TooMany
from nameagain.habits import Habits
from samples import any_things, ask, letter, number, one_folk, pair, said, triple, way


class Mornings(unittest.TestCase):
    def told(self, habits, stand, *rows):
        """The mornings are just these, in this order."""
        self.assertEqual(mornings(habits, stand), list(rows))

    def behind(self, habits, stand, *stands):
        """The mornings are just these stands, in this order, nothing being heard."""
        self.told(habits, stand, *[((), one) for one in stands])


class Step1Coming(Mornings):
    def still(self, least, most, twice=False):
        return one_folk("still", 3, out=way("house", "ann", least, most, False, twice))

    def test_nothing_under_way(self):
        for habits in (one_folk(), pair(), triple()):
            self.behind(habits, bare(habits), bare(habits))

    def test_waits_below_the_least_days(self):
        habits = self.still(3, 3)
        self.behind(habits, ((-1,), (ask(0, 0),)), ((-1,), (ask(0, 1),)))
        self.behind(habits, ((-1,), (ask(0, 1),)), ((-1,), (ask(0, 2),)))

    def test_comes_with_the_most_days(self):
        self.behind(self.still(3, 3), ((-1,), (ask(0, 2),)), ((-1,), ()))
        self.behind(self.still(1, 3), ((-1,), (ask(0, 2),)), ((-1,), ()))
        self.behind(self.still(1, 1), ((-1,), (ask(0, 0),)), ((-1,), ()))

    def test_may_come_between(self):
        habits = self.still(2, 3)
        self.behind(habits, ((-1,), (ask(0, 0),)), ((-1,), (ask(0, 1),)))
        self.behind(habits, ((-1,), (ask(0, 1),)), ((-1,), ()), ((-1,), (ask(0, 2),)))

    def test_copies(self):
        habits = self.still(1, 3, twice=True)
        self.behind(habits, ((-1,), (ask(0, 0),)), ((-1,), ()), ((-1,), (ask(0, 1),)), ((-1,), (ask(0, 1, True),)))
        self.behind(habits, ((-1,), (ask(0, 1),)), ((-1,), ()), ((-1,), (ask(0, 2),)), ((-1,), (ask(0, 2, True),)))

    def test_no_copy_below_the_least_or_with_the_most_days(self):
        habits = self.still(2, 3, twice=True)
        self.behind(habits, ((-1,), (ask(0, 0),)), ((-1,), (ask(0, 1),)))
        self.behind(habits, ((-1,), (ask(0, 2),)), ((-1,), ()))
        self.behind(self.still(2, 2, twice=True), ((-1,), (ask(0, 1),)), ((-1,), ()))

    def test_no_copy_of_a_copy(self):
        habits = self.still(1, 3, twice=True)
        self.behind(habits, ((-1,), (ask(0, 1, True),)), ((-1,), ()), ((-1,), (ask(0, 2, True),)))
        self.behind(habits, ((-1,), (ask(0, 2, True),)), ((-1,), ()))

    def test_a_copied_letter_makes_notes_again(self):
        habits = self.still(1, 2, twice=True)
        self.behind(habits, ((-1,), (letter(0),)), ((-1,), ()), ((-1,), (letter(0, 1),)),
                    ((-1,), (letter(0, 1, 0, True),)), ((0,), ()), ((0,), (letter(0, 1, 0, True),)))
        self.behind(habits, ((-1,), (letter(0, 1, 0, True),)), ((-1,), ()), ((0,), ()))

    def test_alike_things_come_each_for_itself(self):
        habits = self.still(1, 2)
        self.behind(habits, ((-1,), (ask(0), ask(0))), ((-1,), ()), ((-1,), (ask(0, 1),)),
                    ((-1,), (ask(0, 1), ask(0, 1))))

    def test_on_all_ways(self):
        habits = pair(told=way("ann", "bob", 2, 3), steps=2)
        self.behind(habits, ((-1, -1), (letter(1, 0, 2),)), ((-1, -1), (letter(1, 1, 2),)))
        self.behind(habits, ((-1, -1), (letter(1, 1, 2),)), ((-1, -1), ()), ((-1, -1), (letter(1, 2, 2),)),
                    ((-1, 0), ()))
        slow = one_folk(home=way("ann", "house", 2, 3))
        self.behind(slow, ((-1,), (said(1, "none"),)), ((-1,), (said(1, "none", 1),)))
        self.told(slow, ((-1,), (said(1, "none", 1),)), ((), ((-1,), (said(1, "none", 2),))),
                  ((("ann", "none"),), bare(slow)))
        self.told(slow, ((-1,), (said(1, "burnt", 2),)), ((("ann", "burnt"),), bare(slow)))


class Step2Asks(Mornings):
    def test_an_ask_finds_no_note(self):
        self.behind(one_folk("saying"), ((-1,), (ask(0),)), ((-1,), (said(1, "none"),)))

    def test_an_ask_burns_the_note(self):
        self.behind(one_folk("saying"), ((0,), (ask(0),)), ((-1,), (said(1, "burnt"),)))

    def test_several_asks(self):
        habits = one_folk("saying", 2)
        self.behind(habits, ((-1,), (ask(0),) * 3), ((-1,), (said(1, "none"),) * 3))
        for note in (0, 1):
            self.behind(habits, ((note,), (ask(0),) * 3),
                        ((-1,), (said(1, "burnt"), said(1, "none"), said(1, "none"))))
            self.behind(habits, ((note,), (ask(0),) * 2), ((-1,), (said(1, "burnt"), said(1, "none"))))

    def test_still_folk_say_nothing(self):
        habits = one_folk("still", 3)
        for note in (-1, 0, 1, 2):
            for many in (1, 2, 3):
                self.behind(habits, ((note,), (ask(0),) * many), ((-1,), ()))

    def test_answers_go_by_the_way_home(self):
        habits = one_folk("saying", home=way("ann", "house", 2, 3, False))
        self.behind(habits, ((-1,), (ask(0),)), ((-1,), (said(1, "none", 0),)))

    def test_asks_of_two_folk(self):
        habits = triple()
        ann, bob = number(habits, "house", "ann"), number(habits, "house", "bob")
        stand = ((-1, 0, -1), (ask(ann, 2), ask(bob, 2)))
        home = number(habits, "ann", "house"), number(habits, "bob", "house")
        self.behind(habits, stand, ((-1, -1, -1), tuple(sorted([said(home[0], "none"), said(home[1], "burnt")]))))


class Step3Letters(Mornings):
    def test_a_letter_makes_a_note(self):
        habits = one_folk("still", 3)
        self.behind(habits, ((-1,), (letter(0),)), ((-1,), ()), ((0,), ()))

    def test_a_note_is_new_again(self):
        habits = one_folk("still", 3)
        for note in (0, 1, 2):
            self.behind(habits, ((note,), (letter(0),)), ((-1,), ()), ((0,), ()))

    def test_several_letters_make_one_note(self):
        habits = one_folk("saying", 3)
        self.behind(habits, ((-1,), (letter(0),) * 3), ((-1,), (said(1, "burnt"),)), ((0,), ()))

    def test_asks_come_first(self):
        habits = one_folk("saying", 3)
        self.behind(habits, ((-1,), (ask(0), letter(0))),
                    ((-1,), (said(1, "burnt"), said(1, "none"))), ((0,), (said(1, "none"),)))
        self.behind(habits, ((2,), (ask(0), letter(0))),
                    ((-1,), (said(1, "burnt"), said(1, "burnt"))), ((0,), (said(1, "burnt"),)))
        self.behind(habits, ((2,), (ask(0), ask(0), letter(0))),
                    ((-1,), (said(1, "burnt"), said(1, "burnt"), said(1, "none"))),
                    ((0,), (said(1, "burnt"), said(1, "none"))))


class Step4ToldOn(Mornings):
    def test_told_on_or_not(self):
        habits = pair(keep=1)
        self.behind(habits, ((-1, -1), (letter(0),)), ((-1, -1), ()), ((-1, -1), (letter(1, 0, 1),)),
                    ((0, -1), ()), ((0, -1), (letter(1, 0, 1),)))

    def test_steps_bound(self):
        self.behind(pair(steps=0), ((-1, -1), (letter(0),)), ((-1, -1), ()), ((0, -1), ()))
        ring = Habits((("ann", "still", None), ("bob", "still", None)),
                      (way("ann", "bob"), way("bob", "ann"), way("ann", "house"), way("bob", "house")), steps=2)
        self.behind(ring, ((-1, -1), (letter(0, 0, 1),)), ((-1, -1), ()), ((-1, -1), (letter(1, 0, 2),)),
                    ((-1, 0), ()), ((-1, 0), (letter(1, 0, 2),)))
        self.behind(ring, ((-1, -1), (letter(0, 0, 2),)), ((-1, -1), ()), ((-1, 0), ()))
        once = Habits(ring.folk, ring.ways, steps=1)
        self.behind(once, ((-1, -1), (letter(0, 0, 1),)), ((-1, -1), ()), ((-1, 0), ()))

    def test_a_letter_of_any_step_that_came(self):
        habits = Habits((("ann", "still", None), ("bob", "still", None)),
                        (way("house", "ann"), way("bob", "ann"), way("ann", "bob"), way("ann", "house"),
                         way("bob", "house")), steps=2)
        stand = ((-1, -1), (letter(0), letter(1, 0, 1)))
        rows = ((), (letter(2, 0, 1),), (letter(2, 0, 2),))
        self.behind(habits, stand, *[((note, -1), row) for note in (-1, 0) for row in rows])

    def test_a_way_on_which_one_is_still_under_way(self):
        habits = pair(told=way("ann", "bob", 2, 3))
        self.behind(habits, ((-1, -1), (letter(0), letter(1, 0, 1))),
                    ((-1, -1), (letter(1, 1, 1),)), ((0, -1), (letter(1, 1, 1),)))

    def test_what_came_has_left_its_way(self):
        habits = pair(told=way("ann", "bob", 1, 1), kind="still")
        rows = [((ann, bob), row) for ann in (-1, 0) for bob in (-1, 0) for row in ((), (letter(1, 0, 1),))]
        self.behind(habits, ((-1, -1), (letter(0), letter(1, 0, 1))), *rows)

    def test_what_may_come_stands_in_the_way_if_it_goes_on(self):
        habits = pair(told=way("ann", "bob", 1, 2))
        rows = [((ann, bob), row) for ann in (-1, 0) for bob in (-1, 0) for row in ((), (letter(1, 0, 1),))]
        rows += [((ann, -1), (letter(1, 1, 1),)) for ann in (-1, 0)]
        self.behind(habits, ((-1, -1), (letter(0), letter(1, 0, 1))), *sorted(rows))

    def test_by_each_way_for_itself(self):
        habits = Habits((("ann", "still", 1), ("bob", "still", 1), ("cyd", "still", 1)),
                        (way("house", "ann"), way("ann", "bob"), way("ann", "cyd"), way("ann", "house"),
                         way("bob", "house"), way("cyd", "house")), steps=1)
        rows = ((), (letter(1, 0, 1),), (letter(1, 0, 1), letter(2, 0, 1)), (letter(2, 0, 1),))
        self.behind(habits, (((-1,) * 3), (letter(0),)), *[((note, -1, -1), row) for note in (-1, 0) for row in rows])

    def test_never_to_the_house_and_never_of_an_ask(self):
        self.behind(one_folk("still"), ((-1,), (letter(0),)), ((-1,), ()), ((0,), ()))
        self.behind(pair(), ((0, -1), (ask(0),)), ((-1, -1), ()))

    def test_never_of_a_note(self):
        self.behind(pair(), ((0, -1), ()), ((-1, -1), ()), ((0, -1), ()))


class Step5Notes(Mornings):
    def test_older(self):
        habits = one_folk("still", 3)
        self.behind(habits, ((0,), ()), ((-1,), ()), ((1,), ()))
        self.behind(habits, ((1,), ()), ((-1,), ()), ((2,), ()))

    def test_must_be_burnt(self):
        for keep in (1, 2, 3):
            self.behind(one_folk("still", keep), ((keep - 1,), ()), ((-1,), ()))
            self.behind(one_folk("saying", keep), ((keep - 1,), ()), ((-1,), (said(1, "burnt"),)))

    def test_kept_for_ever(self):
        self.behind(one_folk("still", None), ((0,), ()), ((-1,), ()), ((0,), ()))
        self.behind(one_folk("saying", None), ((0,), ()), ((-1,), (said(1, "burnt"),)), ((0,), ()))

    def test_a_new_note_may_be_burnt_and_kept(self):
        for keep in (1, 2, 3, None):
            self.behind(one_folk("saying", keep), ((-1,), (letter(0),)), ((-1,), (said(1, "burnt"),)), ((0,), ()))

    def test_each_folk_for_itself(self):
        habits = pair(keep=2)
        self.behind(habits, ((0, 0), ()), ((-1, -1), ()), ((-1, 1), ()), ((1, -1), ()), ((1, 1), ()))

    def test_no_note_stays_none(self):
        self.behind(one_folk("saying", 1), ((-1,), ()), ((-1,), ()))


class Step6Losing(Mornings):
    def test_words(self):
        habits = one_folk("saying", 1, home=way("ann", "house", 1, 1, True))
        self.behind(habits, ((-1,), (ask(0),)), ((-1,), ()), ((-1,), (said(1, "none"),)))
        self.behind(habits, ((0,), ()), ((-1,), ()), ((-1,), (said(1, "burnt"),)))

    def test_each_for_itself(self):
        habits = one_folk("saying", 1, home=way("ann", "house", 1, 1, True))
        burnt, none = said(1, "burnt"), said(1, "none")
        self.behind(habits, ((0,), (ask(0),) * 3),
                    *[((-1,), row) for row in ((), (burnt,), (burnt, none), (burnt, none, none), (none,), (none, none))])

    def test_told_letters(self):
        habits = pair(told=way("ann", "bob", 1, 1, True))
        self.behind(habits, ((-1, -1), (letter(0),)), ((-1, -1), ()), ((-1, -1), (letter(1, 0, 1),)),
                    ((0, -1), ()), ((0, -1), (letter(1, 0, 1),)))

    def test_nothing_is_lost_later(self):
        habits = one_folk("still", 2, out=way("house", "ann", 1, 2, True), home=way("ann", "house", 1, 1, True))
        self.behind(habits, ((-1,), (letter(0, 1),)), ((-1,), ()), ((0,), ()))
        self.behind(habits, ((0,), (ask(0, 0),)), ((-1,), ()), ((-1,), (ask(0, 1),)), ((1,), (ask(0, 1),)))
        speaking = one_folk("saying", 1, home=way("ann", "house", 1, 1, True))
        self.told(speaking, ((-1,), (said(1, "none"),)), ((("ann", "none"),), bare(speaking)))


class Step7Heard(Mornings):
    def test_words_sorted_and_alike(self):
        habits = Habits((("bob", "saying", None), ("ann", "saying", None)), (way("bob", "house"), way("ann", "house")))
        under = (said(0, "burnt"), said(0, "burnt"), said(0, "none"), said(1, "none"), said(1, "none"))
        self.told(habits, ((-1, -1), under),
                  ((("ann", "none"), ("ann", "none"), ("bob", "burnt"), ("bob", "burnt"), ("bob", "none")),
                   bare(habits)))

    def test_one_of_two_alike_may_be_heard(self):
        habits = one_folk("saying", home=way("ann", "house", 1, 2))
        later = said(1, "none", 1)
        self.told(habits, ((-1,), (said(1, "none"),) * 2), ((), ((-1,), (later, later))),
                  ((("ann", "none"),), ((-1,), (later,))), ((("ann", "none"),) * 2, bare(habits)))

    def test_not_on_the_day_on_which_it_is_sent(self):
        habits = one_folk("saying")
        self.behind(habits, ((-1,), (ask(0),)), ((-1,), (said(1, "none"),)))
        self.told(habits, ((-1,), (said(1, "none"),)), ((("ann", "none"),), bare(habits)))

    def test_letters_and_asks_are_not_heard(self):
        self.behind(pair(), ((-1, -1), (ask(0), letter(1, 0, 1))), ((-1, -1), ()), ((-1, 0), ()))

    def test_sorted_by_what_is_heard_first(self):
        habits = one_folk("saying", 3, home=way("ann", "house", 1, 2))
        later = said(1, "none", 1)
        burnt = said(1, "burnt")
        self.told(habits, ((0,), (said(1, "none"),)),
                  ((), ((-1,), (burnt, later))), ((), ((1,), (later,))),
                  ((("ann", "none"),), ((-1,), (burnt,))), ((("ann", "none"),), ((1,), ())))


class Together(Mornings):
    def test_each_once_and_sorted(self):
        habits = triple(loses=True, kind="still")
        ann, bob = number(habits, "house", "ann"), number(habits, "house", "bob")
        rows = mornings(habits, ((0, 1, 2), (letter(ann, 1, 0, True), letter(bob, 2))))
        self.assertEqual(rows, sorted(set(rows)))
        self.assertEqual(len(rows), 2 * 2 * 4 + 2 * 2 * 4 * 4)
        self.assertTrue(all(is_stand(habits, stand) for _, stand in rows))

    def test_an_ask_a_letter_and_a_word_in_one_night(self):
        habits = Habits((("ann", "saying", 1), ("bob", "still", 1)),
                        (way("house", "ann", 1, 2, False, True), way("ann", "bob", 1, 1, True), way("ann", "house"),
                         way("bob", "house")), steps=1)
        heard = (("ann", "burnt"),)
        burnt, told = said(2, "burnt"), letter(1, 0, 1)
        copy, later = letter(0, 1, 0, True), letter(0, 1)
        rows = [((-1, -1), (later, burnt))]
        for tail in ((), (copy,)):
            for on in ((), (told,)):
                rows += [((0, -1), tail + on + (burnt,)), ((-1, -1), tail + on + (burnt, burnt))]
        self.told(habits, ((0, 0), (ask(0, 1), letter(0), burnt)),
                  *[(heard, stand) for stand in sorted(rows)])

    def test_by_names(self):
        habits = one_folk()
        self.assertEqual(mornings(habits=habits, stand=bare(habits)), [((), bare(habits))])

    def test_lists_are_new(self):
        habits = one_folk()
        stand = ((0,), (ask(0),))
        rows = mornings(habits, stand)
        expected = list(rows)
        self.assertIsNot(mornings(habits, stand), rows)
        rows.append(None)
        rows.reverse()
        self.assertEqual(mornings(habits, stand), expected)


class Refusals(Mornings):
    def too_many(self, habits, stand):
        self.assertIs(is_stand(habits, stand), True)
        with self.assertRaises(TooMany) as caught:
            mornings(habits, stand)
        self.assertEqual(caught.exception.at, 0)

    def test_no_stand(self):
        habits = one_folk()
        for thing in any_things() + [((1,), ()), ((True,), ()), [(0,), ()], ((0,), []), ((-1, -1), ())]:
            with self.assertRaises(NoStand):
                mornings(habits, thing)

    def test_no_stand_ahead_of_too_many(self):
        habits = one_folk("still", out=way("house", "ann", 2, 2))
        self.too_many(habits, ((-1,), (ask(0),) * 7))
        for stand in (((1,), (ask(0),) * 7), ((-1,), (ask(0),) * 7 + (ask(0, 2),)), ((-1,), [ask(0)] * 7)):
            with self.assertRaises(NoStand):
                mornings(habits, stand)

    def test_six_and_seven_that_wait(self):
        habits = one_folk("still", out=way("house", "ann", 2, 2))
        self.behind(habits, ((-1,), (ask(0),) * 6), ((-1,), (ask(0, 1),) * 6))
        self.too_many(habits, ((-1,), (ask(0),) * 7))

    def test_seven_and_ten_that_come(self):
        habits = one_folk("still", 1)
        for many in (7, 10):
            self.behind(habits, ((-1,), (ask(0),) * many), ((-1,), ()))
            self.behind(habits, ((-1,), (letter(0),) * many), ((-1,), ()), ((0,), ()))

    def test_ten_words_that_are_heard(self):
        habits = one_folk("saying")
        self.told(habits, ((-1,), (said(1, "burnt"),) * 4 + (said(1, "none"),) * 6),
                  ((("ann", "burnt"),) * 4 + (("ann", "none"),) * 6, bare(habits)))

    def test_too_many_where_one_of_the_stands_has(self):
        habits = one_folk("still", out=way("house", "ann", 1, 2))
        self.assertEqual(len(mornings(habits, ((-1,), (ask(0),) * 6))), 7)
        self.too_many(habits, ((-1,), (ask(0),) * 7))
        self.too_many(habits, ((-1,), (ask(0),) * 10))

    def test_ten_things_of_which_some_wait(self):
        habits = one_folk("still", out=way("house", "ann", 2, 3))
        self.assertEqual(len(mornings(habits, ((-1,), (ask(0, 0),) * 3 + (ask(0, 1),) * 3 + (ask(0, 2),) * 4))), 4)
        self.too_many(habits, ((-1,), (ask(0, 0),) * 3 + (ask(0, 1),) * 4 + (ask(0, 2),) * 3))

    def test_too_many_by_answers(self):
        for loses in (False, True):
            habits = one_folk("saying", home=way("ann", "house", 1, 1, loses))
            self.assertEqual(len(mornings(habits, ((-1,), (ask(0),) * 6))), 7 if loses else 1)
            self.too_many(habits, ((-1,), (ask(0),) * 7))
            self.too_many(habits, ((-1,), (ask(0),) * 6 + (letter(0),)))

    def test_too_many_by_a_burnt_note(self):
        habits = one_folk("saying", 1, home=way("ann", "house", 2, 2))
        self.behind(habits, ((0,), (said(1, "none"),) * 5),
                    ((-1,), (said(1, "burnt"),) + (said(1, "none", 1),) * 5))
        self.too_many(habits, ((0,), (said(1, "none"),) * 6))

    def test_too_many_by_copies_and_letters_told_on(self):
        habits = pair(told=way("ann", "bob"), kind="still")
        twice = Habits(habits.folk, (way("house", "ann", 1, 2, False, True),) + habits.ways[1:], steps=1)
        self.assertEqual(len(mornings(twice, ((-1, -1), (letter(0),) * 5))), 4 * (6 + 5 + 4 + 3 + 2) + 1)
        self.too_many(twice, ((-1, -1), (letter(0),) * 6))


if __name__ == "__main__":
    unittest.main()
