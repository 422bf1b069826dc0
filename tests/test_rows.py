import copy
import unittest
from fractions import Fraction
from random import Random

from evenkin.rows import row_of, total_of
from evenkin.trees import term_of
from evenkin.webs import side_by_side, web_renamed
from helpers import (EIGHT, FRACTIONS, LARGE_FRACTIONS, LARGE_TWO, NO_PLACES, ROW_LEAVES, SIXTY, TABLE_LEAVES,
                     TERM_WEBS, THREE, all_webs, any_row_term, as_told, check_fractions, check_own, depth_of_term,
                     row_there, some_webs, web_of)

ONE = ("one",)
TIE = ("tie",)
SIXTEEN = side_by_side(EIGHT, next(some_webs(8, (0, 1, 2), (-9, 0, 1, 6), 1, 9)))
WEBS = TERM_WEBS + (SIXTEEN,)


def one_deeper(terms, others, fractions):
    """Every term of one of the kinds with these terms in it."""
    found = [("near", term) for term in terms]
    found += [(kind, term, other) for kind in ("both", "plus") for term in terms for other in others]
    return found + [("many", f, term) for f in fractions for term in terms]


class Rows(unittest.TestCase):
    def check(self, web, term):
        right = row_there(web, term)
        check_fractions(self, row_of(web, term), [as_told(value) for value in right])
        check_fractions(self, [total_of(web, term)], [as_told(sum(right, Fraction(0)))])


class EachKind(Rows):
    def test_one_is_1_everywhere(self):
        self.assertEqual(row_of(THREE, ONE), [(1, 1), (1, 1), (1, 1)])
        self.assertEqual(total_of(THREE, ONE), (3, 1))

    def test_hue_is_1_at_places_of_the_hue(self):
        self.assertEqual(row_of(THREE, ("hue", 0)), [(1, 1), (0, 1), (1, 1)])
        self.assertEqual(row_of(THREE, ("hue", 1)), [(0, 1), (1, 1), (0, 1)])
        self.assertEqual(total_of(THREE, ("hue", 0)), (2, 1))
        self.assertEqual(row_of(LARGE_TWO, ("hue", SIXTY)), [(0, 1), (1, 1)])

    def test_hue_that_no_place_has(self):
        for hue in (2, 7, SIXTY):
            self.assertEqual(row_of(THREE, ("hue", hue)), [(0, 1), (0, 1), (0, 1)])
            self.assertEqual(total_of(THREE, ("hue", hue)), (0, 1))
        self.assertEqual(row_of(LARGE_TWO, ("hue", SIXTY - 1)), [(0, 1), (0, 1)])

    def test_near_is_the_sum_of_weights_times_the_term(self):
        self.assertEqual(row_of(THREE, ("near", ONE)), [(-1, 1), (2, 1), (12, 1)])
        self.assertEqual(row_of(THREE, ("near", ("hue", 0))), [(2, 1), (2, 1), (7, 1)])
        self.assertEqual(row_of(THREE, ("near", ("near", ONE))), [(-8, 1), (63, 1), (94, 1)])
        self.assertEqual(total_of(THREE, ("near", ONE)), (13, 1))

    def test_near_counts_the_weight_of_a_place_with_itself(self):
        self.assertEqual(row_of(([0], [[-3]]), ("near", ONE)), [(-3, 1)])
        self.assertEqual(row_of(([0, 1], [[5, 0], [0, 0]]), ("near", ONE)), [(5, 1), (0, 1)])

    def test_both_is_the_product(self):
        self.assertEqual(row_of(THREE, ("both", ("near", ONE), ("near", ONE))), [(1, 1), (4, 1), (144, 1)])
        self.assertEqual(row_of(THREE, ("both", ("near", ONE), ("hue", 0))), [(-1, 1), (0, 1), (12, 1)])
        self.assertEqual(total_of(THREE, ("both", ("hue", 0), ("hue", 1))), (0, 1))

    def test_plus_is_the_sum(self):
        self.assertEqual(row_of(THREE, ("plus", ("near", ONE), ("hue", 0))), [(0, 1), (2, 1), (13, 1)])
        self.assertEqual(row_of(THREE, ("plus", ("hue", 0), ("hue", 1))), row_of(THREE, ONE))

    def test_many_is_the_fraction_times_the_term(self):
        self.assertEqual(row_of(THREE, ("many", (-5, 6), ("near", ONE))), [(5, 6), (-5, 3), (-10, 1)])
        self.assertEqual(total_of(THREE, ("many", (-5, 6), ("near", ONE))), (-65, 6))
        self.assertEqual(row_of(THREE, ("many", (0, 1), ONE)), [(0, 1), (0, 1), (0, 1)])

    def test_each_fraction_is_in_lowest_terms_by_itself(self):
        halves = ("many", (1, 2), ("hue", 0))
        thirds = ("many", (1, 3), ("hue", 1))
        self.assertEqual(row_of(THREE, ("plus", halves, thirds)), [(1, 2), (1, 3), (1, 2)])
        self.assertEqual(total_of(THREE, ("plus", halves, thirds)), (4, 3))
        self.assertEqual(row_of(THREE, ("plus", halves, halves)), [(1, 1), (0, 1), (1, 1)])
        self.assertEqual(total_of(THREE, halves), (1, 1))
        self.assertEqual(row_of(THREE, ("both", ("many", (2, 3), ONE), ("many", (3, 2), ONE))), [(1, 1)] * 3)
        self.assertEqual(row_of(THREE, ("near", ("many", (1, 6), ONE))), [(-1, 6), (1, 3), (2, 1)])


class AgainstPointSix(Rows):
    def test_each_kind_within_each_other(self):
        shallow = list(ROW_LEAVES) + one_deeper(ROW_LEAVES, ROW_LEAVES, FRACTIONS)
        for web in (([4], [[-2]]), THREE):
            for term in shallow + one_deeper(shallow, ROW_LEAVES + (("near", ONE), ("many", (9, 4), ONE)), FRACTIONS):
                with self.subTest(web=web, term=term):
                    self.check(web, term)

    def test_either_side_of_both_and_plus(self):
        first, second = ("many", (1, 6), ("near", ("hue", 0))), ("plus", ("many", (-9, 4), ("near", ONE)), ("hue", 1))
        for web in WEBS:
            for kind in ("both", "plus"):
                self.check(web, (kind, first, second))
                self.assertEqual(row_of(web, (kind, first, second)), row_of(web, (kind, second, first)))

    def test_webs_of_all_sizes(self):
        terms = list(ROW_LEAVES) + one_deeper(ROW_LEAVES, ROW_LEAVES, FRACTIONS)
        for web in WEBS:
            for term in terms + one_deeper(terms[::3], terms[::5], FRACTIONS[3:]):
                with self.subTest(web=web, term=term):
                    self.check(web, term)

    def test_all_webs_of_two_places(self):
        term = ("plus", ("many", (1, 2), ("near", ("both", ("near", ONE), ("hue", 0)))), ("near", ("hue", 1)))
        for web in all_webs(2, (0, 1), (-1, 0, 1, 2)):
            self.check(web, term)

    def test_the_web_without_places(self):
        for term in list(ROW_LEAVES) + one_deeper(ROW_LEAVES, ROW_LEAVES, FRACTIONS + LARGE_FRACTIONS):
            self.assertEqual(row_of(NO_PLACES, term), [])
            self.assertEqual(total_of(NO_PLACES, term), (0, 1))

    def test_two_webs_beside_one_another(self):
        chance = Random(1)
        for turn in range(30):
            term = any_row_term(chance, 5, FRACTIONS)
            for web, other in ((THREE, EIGHT), (EIGHT, web_of(8)), (NO_PLACES, THREE), (LARGE_TWO, NO_PLACES)):
                both = side_by_side(web, other)
                self.assertEqual(row_of(both, term), row_of(web, term) + row_of(other, term))
                self.check(both, term)

    def test_a_web_renamed(self):
        chance = Random(2)
        for turn in range(30):
            term = any_row_term(chance, 6, FRACTIONS)
            order = chance.sample(range(8), 8)
            renamed = web_renamed(EIGHT, order)
            self.assertEqual(row_of(renamed, term), [row_of(EIGHT, term)[u] for u in order])
            self.assertEqual(total_of(renamed, term), total_of(EIGHT, term))

    def test_weights_nought_everywhere(self):
        nought = ([0, 1, 1], [[0] * 3 for u in range(3)])
        for term in one_deeper(ROW_LEAVES, ROW_LEAVES, FRACTIONS):
            self.check(nought, term)
        self.assertEqual(row_of(nought, ("near", ONE)), [(0, 1)] * 3)


class RowsOfTables(Rows):
    def test_written_out(self):
        self.assertEqual(row_of(THREE, ("rows", ("same",))), [(1, 1)] * 3)
        self.assertEqual(row_of(THREE, ("rows", TIE)), [(-1, 1), (2, 1), (12, 1)])
        self.assertEqual(row_of(THREE, ("rows", ("all",))), [(3, 1)] * 3)
        self.assertEqual(row_of(THREE, ("rows", ("on", ("hue", 0)))), [(1, 1), (0, 1), (1, 1)])
        self.assertEqual(row_of(THREE, ("rows", ("then", ("on", ("near", ONE)), ("all",)))), [(-3, 1), (6, 1), (36, 1)])
        self.assertEqual(total_of(THREE, ("rows", TIE)), (13, 1))
        self.assertEqual(total_of(THREE, ("rows", ("many", (1, 3), TIE))), (13, 3))

    def test_rows_not_columns(self):
        table = ("then", ("on", ("hue", 1)), TIE)
        self.assertEqual(row_of(THREE, ("rows", table)), [(0, 1), (2, 1), (0, 1)])
        self.assertEqual(row_of(THREE, ("rows", ("turned", table))), [(-3, 1), (0, 1), (5, 1)])

    def test_each_kind_with_rows_in_it(self):
        tables = list(TABLE_LEAVES) + [("on", ("near", ONE)), ("many", (-5, 6), TIE), ("then", TIE, ("on", ("hue", 0)))]
        rows = [("rows", table) for table in tables]
        for web in WEBS:
            for term in rows + one_deeper(rows, rows[:2] + [("hue", 0)], FRACTIONS[3:]):
                self.check(web, term)

    def test_near_is_rows_of_tie_then_on(self):
        chance = Random(5)
        for turn in range(20):
            term = any_row_term(chance, 4, FRACTIONS, True)
            for web in (THREE, EIGHT):
                same = ("rows", ("then", TIE, ("on", term)))
                self.assertEqual(row_of(web, ("near", term)), row_of(web, same))
                self.assertEqual(row_of(web, term), row_of(web, ("rows", ("on", term))))

    def test_on_and_rows_within_one_another(self):
        term = ("near", ONE)
        while depth_of_term(term) < 20:
            term = ("rows", ("on", term)) if depth_of_term(term) < 19 else ("near", term)
        for web in WEBS:
            self.check(web, term)

    def test_twenty_deep(self):
        chance = Random(6)
        for turn in range(40):
            term = any_row_term(chance, 20, FRACTIONS, True)
            self.assertEqual(depth_of_term(term), 20)
            for web in (NO_PLACES, THREE, EIGHT):
                self.check(web, term)

    def test_fractions_of_sixty_figures(self):
        chance = Random(7)
        for turn in range(20):
            term = any_row_term(chance, 8, LARGE_FRACTIONS, True)
            for web in (THREE, LARGE_TWO):
                self.check(web, term)

    def test_sixteen_places(self):
        for table in (TIE, ("same",), ("on", ("near", ONE)), ("then", TIE, TIE), ("many", (1, 16), ("all",))):
            self.check(SIXTEEN, ("rows", table))
            self.check(SIXTEEN, ("near", ("rows", table)))

    def test_the_web_without_places(self):
        for table in TABLE_LEAVES + (("on", ONE), ("turned", TIE), ("then", TIE, TIE), ("many", (1, 2), TIE)):
            self.assertEqual(row_of(NO_PLACES, ("rows", table)), [])
            self.assertEqual(total_of(NO_PLACES, ("rows", table)), (0, 1))

    def test_terms_of_trees_with_many_boughs_within_tables(self):
        term = term_of((None, [(0, []) for bough in range(300)]))
        self.assertEqual(row_of(([0, 0], [[0, 1], [1, 0]]), ("rows", ("on", term))), [(1, 1), (1, 1)])


class LargeNumbers(Rows):
    def test_weights_of_sixty_figures(self):
        self.assertEqual(row_of(LARGE_TWO, ("near", ONE)), [(0, 1), (-1, 1)])
        self.assertEqual(row_of(LARGE_TWO, ("near", ("hue", 0))), [(SIXTY, 1), (-SIXTY, 1)])
        for term in one_deeper([("near", leaf) for leaf in ROW_LEAVES], ROW_LEAVES, LARGE_FRACTIONS):
            self.check(LARGE_TWO, term)

    def test_fractions_of_sixty_figures(self):
        for f in LARGE_FRACTIONS:
            for g in LARGE_FRACTIONS:
                mixed = ("plus", ("many", f, ("hue", 0)), ("many", g, ("hue", 1)))
                for web in (THREE, LARGE_TWO, EIGHT):
                    self.check(web, mixed)
                    self.check(web, ("near", mixed))
                    self.check(web, ("both", mixed, ("near", mixed)))

    def test_fractions_that_take_each_other_up(self):
        for f in LARGE_FRACTIONS:
            over = (f[1], f[0]) if f[0] > 0 else (-f[1], -f[0])
            self.assertEqual(row_of(THREE, ("many", f, ("many", over, ONE))), [(1, 1)] * 3)
            opposite = ("many", (-f[0], f[1]), ONE)
            self.assertEqual(row_of(THREE, ("plus", ("many", f, ONE), opposite)), [(0, 1)] * 3)


class DeepTerms(Rows):
    def test_twenty_deep_of_one_kind(self):
        wraps = [lambda term: ("near", term), lambda term: ("many", (-5, 6), term),
                 lambda term: ("many", (SIXTY, SIXTY - 1), term)]
        for kind in ("both", "plus"):
            wraps.append(lambda term, kind=kind: (kind, term, ("near", ONE)))
            wraps.append(lambda term, kind=kind: (kind, ("near", ONE), term))
        for wrap in wraps:
            term = ("near", ONE)
            while depth_of_term(term) < 20:
                term = wrap(term)
            for web in (NO_PLACES, THREE, EIGHT, SIXTEEN):
                self.check(web, term)

    def test_twenty_deep_of_all_kinds(self):
        chance = Random(3)
        for turn in range(60):
            term = any_row_term(chance, 20, FRACTIONS)
            self.assertEqual(depth_of_term(term), 20)
            for web in (THREE, EIGHT, SIXTEEN):
                self.check(web, term)

    def test_twenty_deep_with_fractions_of_sixty_figures(self):
        chance = Random(4)
        for turn in range(10):
            term = any_row_term(chance, 20, LARGE_FRACTIONS)
            for web in (LARGE_TWO, EIGHT):
                self.check(web, term)

    def test_a_term_with_itself_on_both_sides(self):
        term, right = ONE, 1
        for turn in range(15):
            term, right = ("plus", term, ("many", (1, 2), term)), right * Fraction(3, 2)
        self.assertEqual(row_of(([0], [[1]]), term), [as_told(right)])

    def test_terms_of_trees_with_many_boughs(self):
        tree = (None, [])
        for turn in range(19):
            tree = (None, [tree] + [(0, []) for bough in range(299)])
        term = term_of(tree)
        self.assertEqual(row_of(([0, 0], [[0, 1], [1, 0]]), term), [(1, 1), (1, 1)])
        self.assertEqual(total_of(([0, 1], [[0, 1], [1, 0]]), term), (0, 1))
        self.assertEqual(total_of(([0], [[-1]]), term), ((-1) ** (19 * 300), 1))


class WhatIsHandedInAndTold(Rows):
    def test_own(self):
        terms = list(ROW_LEAVES) + one_deeper(ROW_LEAVES, ROW_LEAVES, FRACTIONS[1:3])
        terms += [("near", ("both", ONE, ("near", ONE))), ("rows", TIE), ("rows", ("many", (1, 2), ("on", ONE)))]
        for term in terms:
            for web in (NO_PLACES, THREE, SIXTEEN):
                check_own(self, row_of, [copy.deepcopy(web), term])
                check_own(self, total_of, [copy.deepcopy(web), term])

    def test_a_web_that_is_changed_is_reckoned_anew(self):
        web = copy.deepcopy(THREE)
        term = ("near", ("hue", 0))
        before = row_of(web, term)
        web[0][1] = 0
        web[1][0][0] = 4
        self.assertEqual(row_of(web, term), [(1, 1), (2, 1), (12, 1)])
        self.assertEqual(before, [(2, 1), (2, 1), (7, 1)])
