import copy
import unittest
from fractions import Fraction
from random import Random

from evenkin.errors import KinError, NoStep
from evenkin.shares import join_tables, turned_over
from evenkin.steps import look_at_steps, steps_total, tables_of_steps
from evenkin.tables import table_of_term, table_total
from evenkin.webs import web_renamed
from helpers import (EIGHT, FRACTIONS, LARGE_FRACTIONS, LARGE_TWO, LEAF_STEPS, NO_PLACES, SIXTY, TERM_WEBS, THREE, TWO,
                     all_webs, any_steps, as_told, check_fractions, check_own, check_table, is_reckoning, named_in,
                     tables_there, web_of, whole)

SAME = ("same",)
TIE = ("tie",)
ALL = ("all",)
# Its last step has a table that is not the same when it is turned.
LEANING = [("hue", 0), TIE, ("then", 0, 1)]
ASKERS = (look_at_steps, lambda steps: tables_of_steps(TWO, steps), lambda steps: steps_total(TWO, steps),
          lambda steps: tables_of_steps(NO_PLACES, steps), lambda steps: steps_total(NO_PLACES, steps))


def told(rows):
    return [[as_told(value) for value in row] for row in rows]


def in_a_row(first, count, step):
    """The first steps, and behind them steps that are made of their own numbers."""
    steps = list(first)
    while len(steps) < count:
        steps.append(step(len(steps)))
    return steps


class Steps(unittest.TestCase):
    def check(self, web, steps):
        self.assertIsNone(look_at_steps(steps))
        right = tables_there(web, steps)
        tables = tables_of_steps(web, steps)
        self.assertIs(type(tables), list)
        self.assertEqual(len(tables), len(steps))
        for table, rows in zip(tables, right):
            check_table(self, table, told(rows))
        total = sum((value for row in right[-1] for value in row), Fraction(0))
        check_fractions(self, [steps_total(web, steps)], [as_told(total)])


class EachKind(Steps):
    def check_whole(self, web, steps, rows):
        """The last step's table and the total, and all of the others by point 17."""
        check_table(self, tables_of_steps(web, steps)[-1], whole(rows))
        self.assertEqual(steps_total(web, steps), (sum(map(sum, rows)), 1))
        self.check(web, steps)

    def test_same(self):
        self.check_whole(TWO, [SAME], [[1, 0], [0, 1]])
        self.check_whole(THREE, [TIE, SAME], [[1, 0, 0], [0, 1, 0], [0, 0, 1]])

    def test_tie(self):
        self.check_whole(TWO, [TIE], TWO[1])
        self.check_whole(LARGE_TWO, [SAME, TIE], LARGE_TWO[1])
        self.check_whole(web_of(8), [TIE], web_of(8)[1])

    def test_all(self):
        self.check_whole(TWO, [ALL], [[1, 1], [1, 1]])
        self.check_whole(web_of(8), [TIE, ("turned", 0), ALL], [[1] * 8 for u in range(8)])

    def test_hue(self):
        self.check_whole(THREE, [("hue", 0)], [[1, 0, 0], [0, 0, 0], [0, 0, 1]])
        self.check_whole(THREE, [("hue", 1)], [[0, 0, 0], [0, 1, 0], [0, 0, 0]])
        self.check_whole(THREE, [TIE, ALL, ("hue", 7)], [[0] * 3 for u in range(3)])
        self.check_whole(LARGE_TWO, [("hue", SIXTY)], [[0, 0], [0, 1]])

    def test_a_hue_is_no_number_of_a_step(self):
        self.check_whole(TWO, [TIE, ALL, ("hue", 1)], [[0, 0], [0, 1]])
        self.check_whole(TWO, [TIE, ("hue", 1), ("plus", 1, 1)], [[0, 0], [0, 2]])

    def test_turned(self):
        self.check_whole(TWO, LEANING, [[2, -3], [0, 0]])
        self.check_whole(TWO, LEANING + [("turned", 2)], [[2, 0], [-3, 0]])
        self.check_whole(TWO, LEANING + [("turned", 2), ("turned", 3)], [[2, -3], [0, 0]])
        self.check_whole(TWO, LEANING + [("turned", 1)], TWO[1])

    def test_then(self):
        self.check_whole(TWO, [TIE, ("then", 0, 0)], [[13, -21], [-21, 34]])
        self.check_whole(TWO, [TIE, ALL, ("then", 0, 1)], [[-1, -1], [2, 2]])
        self.check_whole(TWO, [TIE, ALL, ("then", 1, 0)], [[-1, 2], [-1, 2]])
        self.check_whole(TWO, [("hue", 0), TIE, ("then", 1, 0)], [[2, 0], [-3, 0]])

    def test_meet(self):
        self.check_whole(TWO, [TIE, ("meet", 0, 0)], [[4, 9], [9, 25]])
        self.check_whole(TWO, [TIE, SAME, ("meet", 0, 1)], [[2, 0], [0, 5]])
        self.check_whole(TWO, LEANING + [("turned", 2), ("meet", 2, 3)], [[4, 0], [0, 0]])

    def test_plus(self):
        self.check_whole(TWO, [TIE, SAME, ("plus", 0, 1)], [[3, -3], [-3, 6]])
        self.check_whole(TWO, LEANING + [("turned", 2), ("plus", 3, 2)], [[4, -3], [-3, 0]])

    def test_many(self):
        steps = [TIE, ("many", (-5, 6), 0)]
        check_table(self, tables_of_steps(TWO, steps)[1], [[(-5, 3), (5, 2)], [(5, 2), (-25, 6)]])
        self.assertEqual(steps_total(TWO, steps), (-5, 6))
        self.check_whole(TWO, [TIE, ("many", (0, 1), 0)], [[0, 0], [0, 0]])
        self.check_whole(TWO, [TIE, ALL, ("many", (2, 1), 0)], [[4, -6], [-6, 10]])

    def test_each_fraction_is_in_lowest_terms_by_itself(self):
        steps = [SAME, ALL, ("many", (1, 2), 0), ("many", (1, 3), 1), ("plus", 2, 3)]
        check_table(self, tables_of_steps(TWO, steps)[4], [[(5, 6), (1, 3)], [(1, 3), (5, 6)]])
        self.assertEqual(steps_total(TWO, steps), (7, 3))
        halves = [ALL, ("many", (1, 2), 0), ("plus", 1, 1), ("then", 1, 1), ("many", (2, 3), 1), ("meet", 4, 2)]
        self.check(TWO, halves)
        self.check(THREE, halves)
        self.assertEqual(steps_total(TWO, halves[:2]), (2, 1))
        sixths = [TIE, ("many", (1, 6), 0)]
        check_table(self, tables_of_steps(THREE, sixths)[1],
                    [[(1, 3), (-1, 2), (0, 1)], [(-1, 2), (0, 1), (5, 6)], [(0, 1), (5, 6), (7, 6)]])
        self.assertEqual(steps_total(THREE, sixths), (13, 6))

    def test_the_total_is_that_of_the_last_step(self):
        self.assertEqual(steps_total(TWO, [ALL, TIE]), (1, 1))
        self.assertEqual(steps_total(TWO, [TIE, ALL]), (4, 1))
        self.assertEqual(steps_total(TWO, [TIE, ALL, ("then", 0, 0), SAME]), (2, 1))


class AgainstPointSeventeen(Steps):
    def test_each_kind_behind_each_other(self):
        firsts = [("turned", 2), ("many", (-5, 6), 2)]
        firsts += [(kind, i, j) for kind in ("then", "meet", "plus") for i in (0, 1, 2) for j in (1, 2)]
        seconds = [("turned", 3), ("many", (9, 4), 3)]
        seconds += [(kind, i, j) for kind in ("then", "meet", "plus") for i, j in ((3, 3), (3, 2), (1, 3))]
        for web in (([0], [[-2]]), TWO, THREE):
            for first in firsts:
                for second in seconds:
                    self.check(web, LEANING + [first, second])

    def test_steps_without_names_anywhere(self):
        for web in TERM_WEBS:
            for leaf in LEAF_STEPS:
                self.check(web, [leaf])
                self.check(web, [leaf, leaf])
                self.check(web, LEANING + [leaf, ("plus", 2, 3)])

    def test_a_step_named_often(self):
        steps = LEANING + [("then", 2, 2), ("meet", 2, 2), ("plus", 2, 2), ("turned", 2), ("many", (1, 2), 2),
                           ("then", 2, 6), ("then", 6, 2), ("plus", 7, 2)]
        for web in TERM_WEBS:
            self.check(web, steps)

    def test_either_side_of_then_meet_and_plus(self):
        steps = LEANING + [("many", (1, 6), 2), ("plus", 1, 0)]
        for web in TERM_WEBS:
            for kind in ("then", "meet", "plus"):
                self.check(web, steps + [(kind, 3, 4), (kind, 4, 3)])
        both = tables_of_steps(THREE, steps + [("then", 3, 4), ("then", 4, 3)])
        self.assertNotEqual(both[5], both[6])

    def test_any_reckonings(self):
        chance = Random(171)
        for turn in range(60):
            steps = any_steps(chance, chance.randint(1, 25), FRACTIONS)
            self.assertTrue(is_reckoning(steps))
            for web in (NO_PLACES, ([0], [[3]]), TWO, THREE):
                self.check(web, steps)

    def test_webs_of_eight_places(self):
        chance = Random(172)
        for web in (EIGHT, web_of(8)):
            for turn in range(4):
                self.check(web, any_steps(chance, 20, FRACTIONS))

    def test_all_webs_of_two_places(self):
        steps = LEANING + [("then", 2, 1), ("many", (1, 2), 3), ("meet", 2, 0), ("turned", 5), ("plus", 4, 6)]
        for web in all_webs(2, (0, 1), (-1, 0, 2)):
            self.check(web, steps)

    def test_the_web_without_places(self):
        steps = LEANING + [("many", (SIXTY, 7), 2), ("turned", 3), ("plus", 4, 1), ("meet", 5, 5), ALL, SAME]
        self.assertEqual(tables_of_steps(NO_PLACES, steps), [[] for step in steps])
        for last in range(len(steps)):
            self.assertEqual(steps_total(NO_PLACES, steps[:last + 1]), (0, 1))

    def test_a_web_renamed(self):
        chance = Random(173)
        for turn in range(10):
            steps = any_steps(chance, 15, FRACTIONS)
            order = chance.sample(range(8), 8)
            renamed = tables_of_steps(web_renamed(EIGHT, order), steps)
            for table, there in zip(tables_of_steps(EIGHT, steps), renamed):
                self.assertEqual(there, [[table[u][v] for v in order] for u in order])
            self.assertEqual(steps_total(web_renamed(EIGHT, order), steps), steps_total(EIGHT, steps))

    def test_as_table_terms_have_it(self):
        chance = Random(174)
        for turn in range(30):
            steps = any_steps(chance, 10, FRACTIONS)
            terms = []
            for step in steps:
                named = named_in(step)
                inner = tuple(terms[number] for number in named)
                terms.append(("on", step) if step[0] == "hue" else step[:len(step) - len(named)] + inner)
            for web in (TWO, EIGHT):
                self.assertEqual(tables_of_steps(web, steps), [table_of_term(web, term) for term in terms])
                self.assertEqual(steps_total(web, steps), table_total(web, terms[-1]))

    def test_each_total_is_the_sum_of_its_table(self):
        chance = Random(175)
        steps = any_steps(chance, 40, FRACTIONS)
        for web in (TWO, THREE):
            for last, table in enumerate(tables_of_steps(web, steps)):
                total = sum((Fraction(*f) for row in table for f in row), Fraction(0))
                self.assertEqual(steps_total(web, steps[:last + 1]), as_told(total))


class ThreeHundredSteps(Steps):
    def test_in_a_row(self):
        for step in (lambda place: ("turned", place - 1), lambda place: ("many", (-5, 6), place - 1),
                     lambda place: ("then", place - 1, 1), lambda place: ("then", 1, place - 1),
                     lambda place: ("meet", place - 1, 1), lambda place: ("plus", place - 1, place - 1),
                     lambda place: ("plus", place - 1, place - 2)):
            for web in (([0], [[3]]), TWO, THREE):
                self.check(web, in_a_row(LEANING, 300, step))

    def test_all_kinds(self):
        chance = Random(176)
        for web in (NO_PLACES, TWO, THREE):
            self.check(web, any_steps(chance, 300, FRACTIONS))
        steps = any_steps(chance, 300, FRACTIONS)
        self.assertEqual(len(tables_of_steps(EIGHT, steps)), 300)
        self.check(EIGHT, any_steps(chance, 30, FRACTIONS) + [("turned", place) for place in range(270)])

    def test_without_names(self):
        self.check(THREE, [LEAF_STEPS[place % len(LEAF_STEPS)] for place in range(300)])

    def test_the_last_names_the_first(self):
        steps = [TIE] + [SAME] * 298
        for last in (("turned", 0), ("then", 0, 298), ("plus", 298, 0), ("many", (1, 2), 0), ("meet", 0, 0)):
            self.check(TWO, steps + [last])

    def test_products_of_products(self):
        # Each step has the table of the one ahead of it joined with itself: here it stays the same.
        eighths = in_a_row([ALL, ("many", (1, 8), 0)], 300, lambda place: ("then", place - 1, place - 1))
        self.assertEqual(tables_of_steps(EIGHT, eighths)[299], [[(1, 8)] * 8 for u in range(8)])
        self.assertEqual(steps_total(EIGHT, eighths), (8, 1))
        ones = in_a_row([ALL], 300, lambda place: ("meet", place - 1, place - 1))
        self.assertEqual(steps_total(EIGHT, ones), (64, 1))

    def test_somewhat_more(self):
        steps = in_a_row([TIE], 400, lambda place: ("plus", place - 1, 0))
        self.assertEqual(steps_total(TWO, steps), (400, 1))
        self.assertEqual(tables_of_steps(TWO, steps)[399], whole([[800, -1200], [-1200, 2000]]))


class Refused(unittest.TestCase):
    def check(self, steps, place):
        for ask in ASKERS:
            with self.assertRaises(NoStep) as caught:
                ask(copy.deepcopy(steps))
            self.assertIs(type(caught.exception), NoStep)
            self.assertIsInstance(caught.exception, KinError)
            self.assertIsInstance(caught.exception, ValueError)
            self.assertIs(type(caught.exception.place), int)
            self.assertEqual(caught.exception.place, place)

    def test_by_each_kind_and_each_number(self):
        for first in ([], [TIE], [TIE, ALL], LEANING, [TIE] * 299):
            place = len(first)
            for wrong in (place, place + 1, place + 2, -1, -2, -place, -place - 1, SIXTY, -SIXTY):
                if wrong == 0 and place > 0:
                    continue
                self.check(first + [("turned", wrong)], place)
                self.check(first + [("many", (1, 2), wrong)], place)
                for kind in ("then", "meet", "plus"):
                    self.check(first + [(kind, wrong, wrong)], place)
                    self.check(first + [(kind, 0, wrong)], place)
                    self.check(first + [(kind, wrong, 0)], place)

    def test_by_a_later_step_that_is_there(self):
        self.check([TIE, ("turned", 2), ALL], 1)
        self.check([("many", (1, 2), 1), TIE], 0)
        self.check([TIE, ("then", 0, 2), ALL, ("meet", 0, 2)], 1)
        self.check([TIE, ("then", 3, 0), ALL, ("meet", 0, 2)], 1)
        self.check([("turned", 1), ("turned", 0)], 0)

    def test_by_its_own_number(self):
        self.check([("turned", 0)], 0)
        self.check([TIE, ("then", 1, 0)], 1)
        self.check([TIE, ("then", 0, 1)], 1)
        self.check([TIE, SAME, ("plus", 2, 2), ALL], 2)

    def test_two_wrong_steps(self):
        self.check([TIE, ("turned", 5), ("turned", -1)], 1)
        self.check([TIE, ALL, ("plus", 0, -1), ("meet", 9, 0), ("turned", 4)], 2)
        self.check([("then", 0, 0), ("turned", 7)], 0)

    def test_a_wrong_step_that_the_last_does_not_need(self):
        self.check([TIE, ("turned", -1), ALL], 1)
        self.check([TIE] + [("turned", 0)] * 200 + [("turned", 201)] + [TIE] * 90, 201)

    def test_in_three_hundred_steps(self):
        right = in_a_row([TIE], 300, lambda place: ("turned", place - 1))
        self.assertIsNone(look_at_steps(right))
        for place in (1, 150, 299):
            for wrong in (place, place + 1, -1):
                self.check(right[:place] + [("turned", wrong)] + right[place + 1:], place)

    def test_numbers_that_are_no_names(self):
        for steps in ([("hue", 5)], [("hue", 0)], [TIE, ("many", (7, 9), 0)], [TIE, ("many", (-3, 1), 0)]):
            self.assertIsNone(look_at_steps(steps))
            self.assertEqual(len(tables_of_steps(TWO, steps)), len(steps))

    def test_what_is_right_is_not_refused(self):
        self.assertIsNone(look_at_steps(LEANING + [("then", 2, 2), ("turned", 0), ("plus", 4, 3)]))
        self.assertIsNone(look_at_steps([TIE] * 300))


class LargeNumbers(Steps):
    def test_weights_and_fractions_of_sixty_figures(self):
        chance = Random(177)
        for f in LARGE_FRACTIONS:
            for g in LARGE_FRACTIONS:
                steps = [TIE, ("hue", 0), ("many", f, 0), ("many", g, 1), ("plus", 2, 3), ("meet", 0, 4),
                         ("then", 4, 5), ("many", f, 6), ("many", g, 7)]
                for web in (TWO, LARGE_TWO):
                    self.check(web, steps)
        for turn in range(20):
            self.check(LARGE_TWO, any_steps(chance, 15, LARGE_FRACTIONS))

    def test_fractions_that_take_each_other_up(self):
        for f in LARGE_FRACTIONS:
            over = (f[1], f[0]) if f[0] > 0 else (-f[1], -f[0])
            steps = [TIE, ("many", f, 0), ("many", over, 1), ("many", (-f[0], f[1]), 0), ("plus", 1, 3)]
            tables = tables_of_steps(TWO, steps)
            check_table(self, tables[2], whole(TWO[1]))
            check_table(self, tables[4], whole([[0, 0], [0, 0]]))

    def test_long_numbers_in_a_row(self):
        for step in (lambda place: ("many", LARGE_FRACTIONS[place % 6], place - 1),
                     lambda place: ("then", place - 1, 0),
                     lambda place: ("plus", place - 1, 0) if place % 2 else ("many", (SIXTY, SIXTY - 1), place - 1)):
            for web in (LARGE_TWO, THREE):
                self.check(web, in_a_row([TIE], 40, step))


class WhatIsHandedInAndTold(Steps):
    def test_own(self):
        chance = Random(178)
        for steps in ([TIE], [TIE, TIE, ("turned", 0)], LEANING, any_steps(chance, 12, FRACTIONS)):
            for web in (NO_PLACES, THREE, EIGHT):
                check_own(self, tables_of_steps, [copy.deepcopy(web), list(steps)])
                check_own(self, steps_total, [copy.deepcopy(web), list(steps)])
            check_own(self, look_at_steps, [list(steps)])

    def test_steps_that_are_refused_stay(self):
        steps = [TIE, ("turned", 4), ALL]
        web = copy.deepcopy(TWO)
        for ask in (lambda: look_at_steps(steps), lambda: tables_of_steps(web, steps), lambda: steps_total(web, steps)):
            self.assertRaises(NoStep, ask)
        self.assertEqual((web, steps), (TWO, [TIE, ("turned", 4), ALL]))

    def test_what_is_changed_is_reckoned_anew(self):
        web, steps = copy.deepcopy(TWO), [TIE]
        before = tables_of_steps(web, steps)
        steps.append(("plus", 0, 0))
        web[1][0][0] = 9
        self.assertEqual(tables_of_steps(web, steps), [whole([[9, -3], [-3, 5]]), whole([[18, -6], [-6, 10]])])
        self.assertEqual(before, [whole([[2, -3], [-3, 5]])])
        steps[1] = ("plus", 0, 1)
        self.assertRaises(NoStep, steps_total, web, steps)

    def test_told_tables_may_be_handed_in_again(self):
        for web in TERM_WEBS:
            tables = tables_of_steps(web, LEANING + [("turned", 2), ("then", 2, 3)])
            check_table(self, turned_over(tables[2]), tables[3])
            check_table(self, join_tables(tables[2], tables[3]), tables[4])
