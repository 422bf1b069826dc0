import copy
import unittest
from fractions import Fraction
from random import Random

from evenkin.rows import row_of, total_of
from evenkin.shares import join_tables, turned_over
from evenkin.tables import table_of_term, table_total
from evenkin.trees import term_of
from evenkin.webs import web_renamed
from helpers import (EIGHT, FRACTIONS, LARGE_FRACTIONS, LARGE_TWO, NO_PLACES, ROW_LEAVES, SIXTY, TABLE_LEAVES,
                     TERM_WEBS, THREE, TWO, all_webs, any_table_term, as_told, check_fractions, check_own, check_table,
                     deep_tree, depth_of_term, table_there, web_of, whole)

ONE = ("one",)
SAME = ("same",)
TIE = ("tie",)
ALL = ("all",)
# A table that is not the same when it is turned.
LEANING = ("then", ("on", ("hue", 0)), TIE)


def one_deeper(terms, others, fractions):
    """Every table term of one of the kinds with these table terms in it."""
    found = [("turned", term) for term in terms]
    found += [(kind, term, other) for kind in ("then", "meet", "plus") for term in terms for other in others]
    return found + [("many", f, term) for f in fractions for term in terms]


class Tables(unittest.TestCase):
    def check(self, web, term):
        right = table_there(web, term)
        check_table(self, table_of_term(web, term), [[as_told(value) for value in row] for row in right])
        total = sum((value for row in right for value in row), Fraction(0))
        check_fractions(self, [table_total(web, term)], [as_told(total)])


class EachKind(Tables):
    def check_whole(self, web, term, rows):
        check_table(self, table_of_term(web, term), whole(rows))
        self.assertEqual(table_total(web, term), (sum(map(sum, rows)), 1))

    def test_same(self):
        self.check_whole(TWO, SAME, [[1, 0], [0, 1]])
        self.check_whole(THREE, SAME, [[1, 0, 0], [0, 1, 0], [0, 0, 1]])

    def test_tie(self):
        self.check_whole(TWO, TIE, TWO[1])
        self.check_whole(LARGE_TWO, TIE, LARGE_TWO[1])
        self.check_whole(web_of(8), TIE, web_of(8)[1])

    def test_all(self):
        self.check_whole(TWO, ALL, [[1, 1], [1, 1]])
        self.check_whole(web_of(8), ALL, [[1] * 8 for u in range(8)])

    def test_on(self):
        self.check_whole(THREE, ("on", ONE), [[1, 0, 0], [0, 1, 0], [0, 0, 1]])
        self.check_whole(THREE, ("on", ("hue", 0)), [[1, 0, 0], [0, 0, 0], [0, 0, 1]])
        self.check_whole(THREE, ("on", ("hue", 7)), [[0] * 3 for u in range(3)])
        self.check_whole(THREE, ("on", ("near", ONE)), [[-1, 0, 0], [0, 2, 0], [0, 0, 12]])

    def test_turned(self):
        self.check_whole(TWO, LEANING, [[2, -3], [0, 0]])
        self.check_whole(TWO, ("turned", LEANING), [[2, 0], [-3, 0]])
        self.check_whole(TWO, ("turned", ("turned", LEANING)), [[2, -3], [0, 0]])
        self.check_whole(THREE, ("turned", TIE), THREE[1])

    def test_then(self):
        self.check_whole(TWO, ("then", TIE, TIE), [[13, -21], [-21, 34]])
        self.check_whole(TWO, ("then", TIE, ALL), [[-1, -1], [2, 2]])
        self.check_whole(TWO, ("then", ALL, TIE), [[-1, 2], [-1, 2]])
        self.check_whole(TWO, ("then", SAME, TIE), TWO[1])
        self.check_whole(TWO, ("then", TIE, ("on", ("hue", 0))), [[2, 0], [-3, 0]])

    def test_meet(self):
        self.check_whole(TWO, ("meet", TIE, TIE), [[4, 9], [9, 25]])
        self.check_whole(TWO, ("meet", TIE, SAME), [[2, 0], [0, 5]])
        self.check_whole(TWO, ("meet", LEANING, ("turned", LEANING)), [[4, 0], [0, 0]])

    def test_plus(self):
        self.check_whole(TWO, ("plus", TIE, SAME), [[3, -3], [-3, 6]])
        self.check_whole(TWO, ("plus", LEANING, ("turned", LEANING)), [[4, -3], [-3, 0]])

    def test_many(self):
        check_table(self, table_of_term(TWO, ("many", (-5, 6), TIE)), [[(-5, 3), (5, 2)], [(5, 2), (-25, 6)]])
        self.assertEqual(table_total(TWO, ("many", (-5, 6), TIE)), (-5, 6))
        self.check_whole(TWO, ("many", (0, 1), TIE), [[0, 0], [0, 0]])

    def test_each_fraction_is_in_lowest_terms_by_itself(self):
        term = ("plus", ("many", (1, 2), SAME), ("many", (1, 3), ALL))
        check_table(self, table_of_term(TWO, term), [[(5, 6), (1, 3)], [(1, 3), (5, 6)]])
        self.assertEqual(table_total(TWO, term), (7, 3))
        halves = ("many", (1, 2), ALL)
        check_table(self, table_of_term(TWO, ("plus", halves, halves)), whole([[1, 1], [1, 1]]))
        check_table(self, table_of_term(TWO, ("then", halves, halves)), [[(1, 2)] * 2 for u in range(2)])
        meeting = ("meet", ("many", (2, 3), ALL), ("many", (3, 2), ALL))
        check_table(self, table_of_term(TWO, meeting), whole([[1, 1], [1, 1]]))
        self.assertEqual(table_total(TWO, halves), (2, 1))


class AgainstPointSixteen(Tables):
    def test_each_kind_within_each_other(self):
        leaves = list(TABLE_LEAVES) + [("on", ("near", ("hue", 0))), ("many", (-5, 6), LEANING)]
        shallow = leaves + one_deeper(leaves, leaves, FRACTIONS)
        for web in (([4], [[-2]]), TWO, THREE):
            for term in shallow + one_deeper(shallow[::3], leaves, FRACTIONS[3:]):
                self.check(web, term)

    def test_rows_within_tables(self):
        rows = list(ROW_LEAVES) + [("near", ONE), ("both", ("near", ONE), ("hue", 0)), ("many", (1, 6), ("near", ONE)),
                                   ("plus", ("many", (1, 2), ONE), ("hue", 1)), ("rows", TIE), ("rows", LEANING)]
        for web in TERM_WEBS:
            for row in rows:
                self.check(web, ("on", row))
                self.check(web, ("then", ("on", row), TIE))
                self.check(web, ("then", TIE, ("on", row)))

    def test_on_and_rows_within_one_another(self):
        inner = ("many", (1, 2), ("then", TIE, ("on", ("hue", 0))))
        for turn in range(4):
            inner = ("then", ("on", ("plus", ("rows", inner), ("near", ("rows", ("turned", inner))))), TIE)
            for web in (NO_PLACES, TWO, THREE, EIGHT):
                self.check(web, inner)

    def test_either_side_of_then_meet_and_plus(self):
        first, second = ("many", (1, 6), LEANING), ("plus", TIE, ("on", ("many", (9, 4), ("near", ONE))))
        for web in TERM_WEBS:
            for kind in ("then", "meet", "plus"):
                self.check(web, (kind, first, second))
                self.check(web, (kind, second, first))
        one_way, other_way = ("then", first, second), ("then", second, first)
        self.assertNotEqual(table_of_term(THREE, one_way), table_of_term(THREE, other_way))

    def test_webs_of_all_sizes(self):
        terms = list(TABLE_LEAVES) + one_deeper(TABLE_LEAVES + (LEANING,), TABLE_LEAVES + (LEANING,), FRACTIONS)
        for web in TERM_WEBS:
            for term in terms:
                self.check(web, term)

    def test_all_webs_of_two_places(self):
        term = ("plus", ("many", (1, 2), ("then", LEANING, TIE)), ("turned", ("meet", LEANING, ("on", ("hue", 1)))))
        for web in all_webs(2, (0, 1), (-1, 0, 2)):
            self.check(web, term)

    def test_the_web_without_places(self):
        for term in list(TABLE_LEAVES) + [("on", ONE)] + one_deeper(TABLE_LEAVES, TABLE_LEAVES, LARGE_FRACTIONS):
            self.assertEqual(table_of_term(NO_PLACES, term), [])
            self.assertEqual(table_total(NO_PLACES, term), (0, 1))

    def test_a_web_renamed(self):
        chance = Random(81)
        for turn in range(20):
            term = any_table_term(chance, 5, FRACTIONS)
            order = chance.sample(range(8), 8)
            renamed, table = web_renamed(EIGHT, order), table_of_term(EIGHT, term)
            self.assertEqual(table_of_term(renamed, term), [[table[u][v] for v in order] for u in order])
            self.assertEqual(table_total(renamed, term), table_total(EIGHT, term))

    def test_totals_of_tables_and_of_their_rows(self):
        chance = Random(82)
        for turn in range(20):
            term = any_table_term(chance, 5, FRACTIONS)
            for web in (NO_PLACES, THREE, EIGHT):
                self.assertEqual(table_total(web, term), total_of(web, ("rows", term)))


class LargeNumbersAndDeepTerms(Tables):
    def test_weights_and_fractions_of_sixty_figures(self):
        chance = Random(83)
        for f in LARGE_FRACTIONS:
            for g in LARGE_FRACTIONS:
                mixed = ("plus", ("many", f, TIE), ("many", g, ("on", ("hue", 0))))
                for web in (TWO, LARGE_TWO):
                    self.check(web, mixed)
                    self.check(web, ("then", mixed, ("meet", TIE, mixed)))
        for turn in range(20):
            self.check(LARGE_TWO, any_table_term(chance, 7, LARGE_FRACTIONS))

    def test_fractions_that_take_each_other_up(self):
        for f in LARGE_FRACTIONS:
            over = (f[1], f[0]) if f[0] > 0 else (-f[1], -f[0])
            check_table(self, table_of_term(TWO, ("many", f, ("many", over, TIE))), whole(TWO[1]))
            opposite = ("many", (-f[0], f[1]), TIE)
            check_table(self, table_of_term(TWO, ("plus", ("many", f, TIE), opposite)), whole([[0, 0], [0, 0]]))

    def test_twenty_deep_of_one_kind(self):
        wraps = [lambda term: ("turned", term), lambda term: ("many", (-5, 6), term),
                 lambda term: ("on", ("rows", term)), lambda term: ("many", (SIXTY, SIXTY - 1), term)]
        for kind in ("then", "meet", "plus"):
            wraps.append(lambda term, kind=kind: (kind, term, TIE))
            wraps.append(lambda term, kind=kind: (kind, TIE, term))
        for wrap in wraps:
            for term in (LEANING, ("turned", LEANING)):
                while depth_of_term(term) < 20:
                    term = wrap(term) if depth_of_term(term) < 19 else ("turned", term)
                for web in (NO_PLACES, THREE, EIGHT):
                    self.check(web, term)

    def test_twenty_deep_of_all_kinds(self):
        chance = Random(84)
        for turn in range(40):
            term = any_table_term(chance, 20, FRACTIONS)
            self.assertEqual(depth_of_term(term), 20)
            for web in (THREE, EIGHT):
                self.check(web, term)

    def test_a_term_with_itself_on_both_sides(self):
        term, right = ALL, 1
        for turn in range(12):
            term, right = ("plus", term, ("many", (1, 2), term)), right * Fraction(3, 2)
        self.assertEqual(table_of_term(([0], [[1]]), term), [[as_told(right)]])

    def test_terms_of_trees_with_many_boughs(self):
        term = ("on", term_of((None, [(0, []) for bough in range(300)])))
        check_table(self, table_of_term(([0, 0], [[0, 1], [1, 0]]), term), whole([[1, 0], [0, 1]]))
        self.assertEqual(table_total(([0, 1], [[0, 1], [1, 0]]), term), (1, 1))

    def test_terms_of_deep_trees(self):
        tree = deep_tree(20, (None, 0), [(0, []), (None, [])])
        for web in (THREE, EIGHT):
            row = row_of(web, term_of(tree))
            table = table_of_term(web, ("on", term_of(tree)))
            self.assertEqual([table[u][u] for u in range(len(row))], row)
            self.assertEqual(table_total(web, ("on", term_of(tree))), total_of(web, term_of(tree)))


class WhatIsHandedInAndTold(Tables):
    def test_own(self):
        terms = list(TABLE_LEAVES) + one_deeper(TABLE_LEAVES, TABLE_LEAVES, FRACTIONS[1:4])
        for term in terms + [("on", ("near", ONE)), ("then", TIE, ("on", ("rows", TIE)))]:
            for web in (NO_PLACES, THREE, EIGHT):
                check_own(self, table_of_term, [copy.deepcopy(web), term])
                check_own(self, table_total, [copy.deepcopy(web), term])

    def test_a_web_that_is_changed_is_reckoned_anew(self):
        web = copy.deepcopy(TWO)
        before = table_of_term(web, TIE)
        web[1][0][0] = 9
        check_table(self, table_of_term(web, TIE), whole([[9, -3], [-3, 5]]))
        check_table(self, before, whole([[2, -3], [-3, 5]]))

    def test_told_tables_may_be_handed_in_again(self):
        for web in TERM_WEBS:
            tie = table_of_term(web, TIE)
            check_table(self, turned_over(table_of_term(web, LEANING)), table_of_term(web, ("turned", LEANING)))
            check_table(self, join_tables(tie, tie), table_of_term(web, ("then", TIE, TIE)))
