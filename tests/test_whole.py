"""What is promised of the whole program: its interface, its papers held against one another, what is told again."""

import copy
import importlib
import inspect
import unittest
from random import Random

from evenkin.errors import KinError
from evenkin.fractions import product_of, sum_of_two
from evenkin.held import held_by_trees, look_trees
from evenkin.kinds import are_kin, coarsest_kinds, is_kin, kinds_together, same_kin
from evenkin.pairs import held_by_pairs, look_pairs
from evenkin.parters import parting_tree
from evenkin.partings import coarsest_parting, coarsest_together, is_even, part_alike
from evenkin.rows import row_of, total_of
from evenkin.shares import goes_through, join_tables, lots_of, turned_over
from evenkin.steps import look_at_steps, steps_total, tables_of_steps
from evenkin.tables import table_of_term, table_total
from evenkin.term_texts import read_table, read_term, read_tree, show_table, show_term, show_tree
from evenkin.trees import knots_of, maps_total, term_of
from evenkin.turnings import all_turnings, first_turning, mean_table, table_of_turning
from evenkin.web_texts import read_web, show_web
from evenkin.webs import look_at_web, side_by_side, web_renamed
from helpers import (BARE, CUBE, EIGHT, FRACTIONS, LARGE, LATE_PAIRS, LIKE_POWERS, NO_PLACES, ONE_PLACE, ORDER,
                     PAIR_ALIKE, PATH, SIXTY, THREE, TREE_ALIKE, TWO, TWO_HUES, UNLIKE_PAIRS, all_webs, any_row_term,
                     any_table_term, check_own, coarsest_by_splitting, kinds_read, ring, scaled, some_webs,
                     steps_total_there, sums_by_place, turnings_there, web_of, with_hue, with_weight)

# The names of DOC.md's interface with their arguments.
INTERFACE = {
    "webs": ("look_at_web(web)", "web_renamed(web, order)", "side_by_side(web, other)"),
    "fractions": ("fraction_of(top, bottom)", "sum_of_two(f, g)", "product_of(f, g)"),
    "rows": ("row_of(web, term)", "total_of(web, term)"),
    "trees": ("term_of(tree)", "knots_of(tree)", "maps_total(web, tree)"),
    "partings": ("is_even(web, lots)", "coarsest_parting(web)", "coarsest_together(web, other)",
                 "part_alike(web, other)"),
    "shares": ("goes_through(web, other, table)", "table_of(web, other)", "join_tables(table, other)",
               "turned_over(table)", "lots_of(table)"),
    "parters": ("parting_tree(web, other)",),
    "held": ("held_by_trees(web, other)", "look_trees(web, other, paper)"),
    "tables": ("table_of_term(web, term)", "table_total(web, term)"),
    "steps": ("look_at_steps(steps)", "tables_of_steps(web, steps)", "steps_total(web, steps)"),
    "kinds": ("is_kin(web, kinds)", "coarsest_kinds(web)", "are_kin(web, other, kinds, kinds_there)",
              "kinds_together(web, other)", "same_kin(web, other)"),
    "pairs": ("parting_steps(web, other)", "held_by_pairs(web, other)", "look_pairs(web, other, paper)"),
    "turnings": ("all_turnings(web, other)", "first_turning(web, other)", "table_of_turning(turning)",
                 "mean_table(web)"),
    "web_texts": ("show_web(web)", "read_web(text)"),
    "term_texts": ("show_tree(tree)", "read_tree(text)", "show_term(term)", "read_term(text)", "show_table(term)",
                   "read_table(text)"),
}
CLASSES = {"errors": ("KinError", "NoWeb", "NoStep", "NoOrder", "NoText", "NoName", "NoLine"), "desk": ("Desk",)}


def renamed_pairs():
    """Webs with what they are when they are renamed."""
    chance = Random(361)
    for web in (NO_PLACES, ONE_PLACE, BARE, TWO_HUES, PATH, THREE, LARGE, EIGHT, CUBE, ring(3, 5), web_of(8),
                scaled(CUBE, SIXTY), LIKE_POWERS[0], LATE_PAIRS[0][1], with_hue(ring(8), 2, 7)):
        order = list(range(len(web[0])))
        chance.shuffle(order)
        yield web, web_renamed(web, order)


def near_pairs():
    """Webs with what they are when one hue or one weight is another one, renamed."""
    chance = Random(362)
    for web, other in renamed_pairs():
        if len(web[0]) > 1:
            u, v = chance.randrange(len(web[0])), chance.randrange(len(web[0]))
            yield web, with_hue(other, u, other[0][u] + 1)
            yield web, with_weight(other, u, v, other[1][u][v] - 1)


def some_pairs():
    """All pairs of some webs, small ones among them."""
    webs = [NO_PLACES] + list(all_webs(1, (0, 1), (0, 1))) + list(some_webs(2, (0, 1), (0, 1), 8, 363))
    webs += list(some_webs(3, (0,), (0, 1), 12, 364)) + list(some_webs(4, (0,), (0, 1), 12, 365))
    webs += list(some_webs(4, (0, 1), (-1, 0, 1), 4, 366)) + [ring(5), ring(6), ring(3, 3)]
    for web in webs:
        for other in webs:
            yield web, other


PAIRS = list(renamed_pairs()) + list(near_pairs()) + list(TREE_ALIKE) + list(UNLIKE_PAIRS) + list(some_pairs())
SIXTEEN = [PAIR_ALIKE, (PAIR_ALIKE[0], web_renamed(PAIR_ALIKE[0], list(range(15, -1, -1))))]


def ways_of(web, other):
    """By which ways, from the coarsest to the finest, two webs are alike."""
    return (held_by_trees(web, other)[0] == "alike", held_by_pairs(web, other)[0] == "alike",
            first_turning(web, other) is not None)


class Interface(unittest.TestCase):
    def test_functions_with_their_arguments(self):
        for module, functions in INTERFACE.items():
            there = importlib.import_module(f"evenkin.{module}")
            for function in functions:
                name, arguments = function[:-1].split("(")
                parameters = inspect.signature(getattr(there, name)).parameters
                self.assertEqual(list(parameters), arguments.split(", "), function)
                self.assertEqual(getattr(there, name).__module__, f"evenkin.{module}")
                for parameter in parameters.values():
                    self.assertIs(parameter.default, inspect.Parameter.empty)

    def test_classes(self):
        for module, names in CLASSES.items():
            there = importlib.import_module(f"evenkin.{module}")
            for name in names:
                self.assertTrue(inspect.isclass(getattr(there, name)))
        desk = importlib.import_module("evenkin.desk").Desk
        self.assertEqual(list(inspect.signature(desk).parameters), [])
        self.assertEqual(list(inspect.signature(desk().say).parameters), ["line"])

    def test_each_refusal_is_known_by_one_name(self):
        there = importlib.import_module("evenkin.errors")
        for name in CLASSES["errors"][1:]:
            self.assertIs(getattr(there, name).__base__, KinError)


class Papers(unittest.TestCase):
    def check_trees(self, web, other):
        """Just one of two papers by trees, the first just where parting by neighbours ends alike."""
        paper = held_by_trees(web, other)
        self.assertEqual(paper[0], "alike" if part_alike(web, other) else "unlike")
        if paper[0] == "alike":
            self.assertEqual(len(paper), 2)
            self.assertIs(goes_through(web, other, paper[1]), True)
        else:
            self.assertEqual(len(paper), 4)
            totals = [(sum(sums_by_place(one, paper[1])), 1) for one in (web, other)]
            self.assertEqual(list(paper[2:]), totals)
            self.assertNotEqual(totals[0], totals[1])
        self.assertIs(look_trees(web, other, paper), True)

    def check_pairs(self, web, other):
        """Just one of two papers by pairs, the first just where the webs are kin."""
        paper = held_by_pairs(web, other)
        self.assertEqual(paper[0], "alike" if same_kin(web, other) else "unlike")
        if paper[0] == "alike":
            self.assertEqual(len(paper), 3)
            self.assertIs(are_kin(web, other, paper[1], paper[2]), True)
            self.assertEqual(sorted(kinds_read([paper[1]])), sorted(kinds_read([paper[2]])))
        else:
            self.assertEqual(len(paper), 4)
            totals = [steps_total_there(one, paper[1]) for one in (web, other)]
            self.assertEqual(list(paper[2:]), totals)
            self.assertNotEqual(totals[0], totals[1])
        self.assertIs(look_pairs(web, other, paper), True)

    def test_just_one_paper_by_trees_and_by_pairs(self):
        for web, other in PAIRS + SIXTEEN:
            self.check_trees(web, other)
            self.check_pairs(web, other)

    def test_each_way_is_finer_than_the_one_ahead(self):
        found = []
        for web, other in PAIRS + SIXTEEN:
            found.append(ways_of(web, other))
            self.assertEqual(found[-1], tuple(sorted(found[-1], reverse=True)))
        self.assertEqual(len(set(found)), 4)

    def test_a_turning_is_told_just_where_one_leads(self):
        for web, other in some_pairs():
            turnings = turnings_there(web, other)
            self.assertEqual(first_turning(web, other), turnings[0] if turnings else None)
        for web, other in renamed_pairs():
            self.assertEqual(ways_of(web, other), (True, True, True))
        for web, other in near_pairs():
            self.assertEqual(ways_of(web, other)[2], False)

    def test_no_paper_of_the_other_way_is_let_by(self):
        """Of webs that are unlike no table and no kinds are right, of webs that are alike no totals."""
        for web, other in PAIRS:
            trees, pairs = held_by_trees(web, other), held_by_pairs(web, other)
            for own in (web, other):
                table, kinds = held_by_trees(own, own)[1], coarsest_kinds(own)
                if trees[0] == "unlike":
                    self.assertIs(look_trees(web, other, ("alike", table)), False)
                if pairs[0] == "unlike":
                    self.assertIs(look_pairs(web, other, ("alike", kinds, kinds)), False)
            for tree in ((None, []), (0, [(None, [])]), (None, [(None, [(None, [])]), (1, [])])):
                if trees[0] == "alike":
                    totals = [(sum(sums_by_place(one, tree)), 1) for one in (web, other)]
                    self.assertEqual(totals[0], totals[1])
                    self.assertIs(look_trees(web, other, ("unlike", tree, *totals)), False)
                    self.assertIs(look_trees(web, other, ("unlike", tree, totals[0], (totals[1][0] + 1, 1))), False)
            for steps in ([("tie",)], [("tie",), ("then", 0, 0), ("meet", 0, 1)], [("hue", 1), ("then", 0, 0)]):
                if pairs[0] == "alike":
                    totals = [steps_total_there(one, steps) for one in (web, other)]
                    self.assertEqual(totals[0], totals[1])
                    self.assertIs(look_pairs(web, other, ("unlike", steps, *totals)), False)
                    self.assertIs(look_pairs(web, other, ("unlike", steps, totals[0], (totals[1][0] + 1, 1))), False)

    def test_which_web_is_named_first_changes_no_word(self):
        for web, other in PAIRS + SIXTEEN:
            self.assertEqual(ways_of(web, other), ways_of(other, web))
            self.assertIs(part_alike(web, other), part_alike(other, web))
            self.assertIs(same_kin(web, other), same_kin(other, web))
            for ask in (held_by_trees, held_by_pairs):
                one, another = ask(web, other), ask(other, web)
                if one[0] == "unlike":
                    self.assertEqual(one, (another[0], another[1], another[3], another[2]))

    def test_papers_hold_for_the_webs_the_other_way_round(self):
        for web, other in PAIRS:
            trees, pairs = held_by_trees(web, other), held_by_pairs(web, other)
            if trees[0] == "alike":
                self.assertIs(look_trees(other, web, ("alike", turned_over(trees[1]))), True)
            else:
                self.assertIs(look_trees(other, web, ("unlike", trees[1], trees[3], trees[2])), True)
                self.assertIs(look_trees(other, web, trees), False)
            self.assertIs(look_pairs(other, web, (pairs[0],) + pairs[1:][::-1] if pairs[0] == "alike"
                                     else ("unlike", pairs[1], pairs[3], pairs[2])), True)

    def test_the_ways_of_a_renaming_are_those_of_the_web(self):
        for web, other in list(TREE_ALIKE) + list(UNLIKE_PAIRS):
            ways = ways_of(web, other)
            order = [place for place in ORDER if place < len(web[0])]
            order_there = [place for place in ORDER[::-1] if place < len(other[0])]
            self.assertEqual(ways_of(web_renamed(web, order), web_renamed(other, order_there)), ways)

    def test_kinds_by_splitting(self):
        for web, other in renamed_pairs():
            kinds, kinds_there = coarsest_by_splitting([web, other])
            self.assertEqual(held_by_pairs(web, other), ("alike", kinds, kinds_there))


class ToldAndHandedInAgain(unittest.TestCase):
    def test_trees(self):
        for web, other in list(UNLIKE_PAIRS) + list(near_pairs()):
            tree = parting_tree(web, other)
            if tree is not None:
                self.assertEqual(read_tree(show_tree(tree)), tree)
                term = term_of(tree)
                for one in (web, other):
                    self.assertEqual(total_of(one, term), (maps_total(one, tree), 1))
                self.assertEqual(show_term(term).count("near "), knots_of(tree) - 1)
                table = ("on", ("rows", ("on", term)))
                self.assertEqual(table_total(web, table), total_of(web, term))

    def test_webs_beside_one_another(self):
        for web, other in list(renamed_pairs()) + list(UNLIKE_PAIRS):
            both = side_by_side(web, other)
            self.assertIsNone(look_at_web(both))
            lots = coarsest_parting(both)
            self.assertEqual(lots, sum(coarsest_together(web, other), []))
            self.assertIs(is_even(both, lots), True)
            term = ("both", ("near", ("one",)), ("many", (1, 3), ("near", ("hue", 0))))
            self.assertEqual(row_of(both, term), row_of(web, term) + row_of(other, term))
            self.assertEqual(total_of(both, term), sum_of_two(total_of(web, term), total_of(other, term)))

    def test_tables_kinds_and_turnings(self):
        for web, other in renamed_pairs():
            table = held_by_trees(web, other)[1]
            kinds, kinds_there = kinds_together(web, other)
            self.assertIs(is_kin(web, kinds), True)
            self.assertIs(are_kin(other, web, kinds_there, kinds), True)
            turning = first_turning(web, other)
            self.assertEqual(web_renamed(other, turning), web)
            joined = join_tables(join_tables(table, turned_over(table)), table_of_turning(turning))
            self.assertIs(look_trees(web, other, ("alike", joined)), True)
            self.assertIs(look_trees(web, web, ("alike", join_tables(mean_table(web), mean_table(web)))), True)
            self.assertEqual(lots_of(joined), coarsest_together(web, other))

    def test_rows_totals_and_steps(self):
        for web, other in UNLIKE_PAIRS:
            kind, steps, total, total_there = held_by_pairs(web, other)
            self.assertIsNone(look_at_steps(steps))
            longer = steps + [("many", total, len(steps) - 1)]
            self.assertEqual(steps_total(web, longer), product_of(total, total))
            self.assertEqual(len(tables_of_steps(other, longer)), len(longer))

    def test_texts(self):
        chance = Random(371)
        for web in (NO_PLACES, TWO, LARGE, EIGHT, web_of(8)):
            self.assertEqual(read_web(show_web(web)), web)
            for turn in range(10):
                term, table = any_row_term(chance, 5, FRACTIONS, True), any_table_term(chance, 5, FRACTIONS)
                self.assertEqual(row_of(web, read_term(show_term(term))), row_of(web, term))
                self.assertEqual(table_of_term(web, read_table(show_table(table))), table_of_term(web, table))

    def test_webs_that_were_read(self):
        for web, other in list(renamed_pairs()) + list(UNLIKE_PAIRS):
            here, there = read_web(show_web(web)), read_web(show_web(other))
            for ask in (held_by_trees, held_by_pairs, first_turning, coarsest_together):
                self.assertEqual(ask(here, there), ask(web, other))


class HandedInAndTold(unittest.TestCase):
    def test_all_that_two_webs_are_asked(self):
        asks = (side_by_side, coarsest_together, part_alike, parting_tree, held_by_trees, kinds_together, same_kin,
                held_by_pairs, all_turnings, first_turning)
        for web, other in PAIRS[:60]:
            for ask in asks:
                if not (ask is all_turnings and web == other):
                    check_own(self, ask, [copy.deepcopy(web), copy.deepcopy(other)])

    def test_all_that_one_web_is_asked(self):
        for web, other in list(renamed_pairs()) + list(TREE_ALIKE):
            for ask in (coarsest_parting, coarsest_kinds, mean_table, show_web, look_at_web):
                check_own(self, ask, [copy.deepcopy(web)])

    def test_lists_changed_behind_change_no_answer(self):
        web, other = copy.deepcopy(ring(6)), copy.deepcopy(ring(3, 3))
        told = [ask(web, other) for ask in (held_by_trees, held_by_pairs, all_turnings)]
        kept = copy.deepcopy(told)
        web[0][0] = 5
        web[1][0][0] = 7
        other[1].clear()
        self.assertEqual(told, kept)
        self.assertEqual([ask(ring(6), ring(3, 3)) for ask in (held_by_trees, held_by_pairs, all_turnings)], kept)
