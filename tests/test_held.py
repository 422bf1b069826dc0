import copy
import unittest
from fractions import Fraction

from evenkin.held import held_by_trees, look_trees
from evenkin.partings import part_alike
from evenkin.shares import goes_through, join_tables, table_of, turned_over
from evenkin.webs import web_renamed
from helpers import (BARE, HALF, LARGE, LATE_PAIRS, LIKE_POWERS, NO_PLACES, ORDER, PATH, SIXTY, WRONG_TABLES, all_webs,
                     check_fractions, check_own, check_table, deep_tree, depth_of_tree, is_tree, mixed_tables, ring,
                     scaled, some_webs, sums_by_place, table_by_order, table_with, turn_by, web_of, with_hue,
                     with_weight)

KNOT = (None, [])
ALIKE = ((NO_PLACES, NO_PLACES), (BARE, BARE), (PATH, web_renamed(PATH, [1, 0, 2])), (ring(8), ring(3, 5)),
         (web_of(8), web_renamed(web_of(8), ORDER)), (scaled(ring(6), SIXTY), scaled(ring(3, 3), SIXTY)),
         (LATE_PAIRS[0][0], web_renamed(LATE_PAIRS[0][0], ORDER)), (LARGE, web_renamed(LARGE, [1, 0])))
UNLIKE = ((NO_PLACES, ([0], [[0]])), (PATH, NO_PLACES), (PATH, ring(3)), (ring(8), ring(7)), (web_of(8), ring(8)),
          (PATH, with_hue(PATH, 1, 4)), (ring(8), with_weight(ring(8), 2, 5, -1)), (LARGE, with_weight(LARGE, 0, 1, 0)),
          LIKE_POWERS) + LATE_PAIRS


def total_there(web, tree):
    """A tree's total by point 7, as a fraction."""
    return (sum(sums_by_place(web, tree)), 1)


class Held(unittest.TestCase):
    def check_alike(self, web, other):
        told = held_by_trees(web, other)
        self.assertIs(type(told), tuple)
        self.assertEqual((len(told), told[0]), (2, "alike"))
        check_table(self, told[1], table_of(web, other))
        self.assertIs(goes_through(web, other, told[1]), True)
        self.assertIs(look_trees(web, other, told), True)

    def check_unlike(self, web, other):
        told = held_by_trees(web, other)
        self.assertIs(type(told), tuple)
        self.assertEqual((len(told), told[0]), (4, "unlike"))
        self.assertTrue(is_tree(told[1]))
        self.assertLessEqual(depth_of_tree(told[1]), 16)
        check_fractions(self, list(told[2:]), [total_there(web, told[1]), total_there(other, told[1])])
        self.assertNotEqual(told[2], told[3])
        self.assertIs(look_trees(web, other, told), True)

    def check_any(self, web, other):
        alike = part_alike(web, other)
        if alike:
            self.check_alike(web, other)
        else:
            self.check_unlike(web, other)
        return alike


class HeldByTrees(Held):
    def test_alike(self):
        for web, other in ALIKE:
            self.check_alike(web, other)
            self.check_alike(other, web)

    def test_unlike(self):
        for web, other in UNLIKE:
            self.check_unlike(web, other)
            self.check_unlike(other, web)

    def test_webs_without_places(self):
        self.assertEqual(held_by_trees(NO_PLACES, NO_PLACES), ("alike", []))
        for web in (([0], [[0]]), PATH, web_of(8)):
            self.check_unlike(NO_PLACES, web)
            self.check_unlike(web, NO_PLACES)

    def test_just_one_of_two_for_any_webs(self):
        webs = [NO_PLACES] + list(all_webs(1, (0, 1), (0, 1))) + list(some_webs(2, (0, 1), (-1, 0, 1), 15, 71))
        webs += list(some_webs(3, (0,), (0, 1), 15, 72)) + list(some_webs(8, (0,), (0, 1), 4, 73))
        found = [self.check_any(web, other) for web in webs for other in webs]
        self.assertEqual(set(found), {True, False})


class LookAtTables(Held):
    def check(self, web, other, table, right):
        self.assertIs(look_trees(web, other, ("alike", table)), right)

    def test_any_table_that_goes_through(self):
        self.check(NO_PLACES, NO_PLACES, [], True)
        self.check(ring(8), ring(8), table_by_order(turn_by(8, 3)), True)
        self.check(ring(8), ring(8), table_of(ring(8), ring(8)), True)
        large = 10 ** 900 + 7
        parts = [(Fraction(1, large), table_by_order(turn_by(8, 1))),
                 (Fraction(large - 1, large), table_by_order(turn_by(8, 6)))]
        self.check(ring(8), ring(8), mixed_tables(parts), True)
        told = held_by_trees(ring(8), ring(3, 5))[1]
        self.check(ring(3, 5), ring(8), turned_over(told), True)
        self.check(ring(8), ring(8), join_tables(told, turned_over(told)), True)
        for web in (web_of(8), LATE_PAIRS[0][0]):
            self.check(web, web_renamed(web, ORDER), table_by_order(ORDER), True)
            self.check(web_renamed(web, ORDER), web, turned_over(table_by_order(ORDER)), True)
            self.check(web_renamed(web, ORDER), web, table_by_order(ORDER), False)

    def test_each_wrong_alone(self):
        for wrong, (web, other, table) in WRONG_TABLES.items():
            with self.subTest(wrong=wrong):
                self.check(web, other, table, False)

    def test_told_tables_with_one_thing_changed(self):
        for web, other in ALIKE[1:]:
            table = held_by_trees(web, other)[1]
            self.check(web, other, table[1:], False)
            self.check(web, other, table + [table[0]], False)
            self.check(web, other, table[:-1] + [table[-1][1:]], False)
            self.check(web, other, table[:-1] + [table[-1] + [(0, 1)]], False)
            self.check(with_hue(web, 0, 99), other, table, False)
            self.check(web, with_hue(other, 0, 99), table, False)
            self.check(with_weight(web, 0, 0, 99), other, table, False)
            self.check(web, with_weight(other, 0, 0, 99), table, False)
            for f in ((-1, 1), (2, 1), (3, 7), (10 ** 500, 10 ** 500 + 1), (-1, 10 ** 500)):
                self.check(web, other, table_with(table, 0, 1, f), False)

    def test_tables_of_any_lengths(self):
        tables = ([], [[]], [[], []], [[(1, 1)]], [[HALF, HALF]], [[HALF], [HALF]], [[(1, 1)], []], [[], [(1, 1)]],
                  [[(1, 1), (0, 1)], [(0, 1)]], [[(1, 1)] * 300] * 300, [[]] * 300, [[(0, 1)] * 9] * 8)
        for web, other in ((BARE, BARE), (ring(8), ring(8)), (BARE, PATH), (PATH, BARE)):
            for table in tables:
                self.check(web, other, table, False)

    def test_webs_that_are_unlike(self):
        for web, other in UNLIKE:
            for table in ([], table_by_order(list(range(len(web[0])))), table_of(web, web), table_of(other, other)):
                self.check(web, other, table, False)


class LookAtTrees(Held):
    def check(self, web, other, paper, right):
        self.assertIs(look_trees(web, other, paper), right)

    def test_any_tree_with_unlike_totals(self):
        trees = [KNOT, (0, []), (4, []), (None, [KNOT, KNOT]), (0, [(0, [])]), deep_tree(20, (None,)),
                 deep_tree(20, (None, 0), [KNOT, (0, [])]), (None, [KNOT] * 300)]
        found = []
        for web, other in ALIKE[:4] + UNLIKE:
            for tree in trees:
                totals = (total_there(web, tree), total_there(other, tree))
                found.append(totals[0] != totals[1])
                self.check(web, other, ("unlike", tree) + totals, found[-1])
                self.check(other, web, ("unlike", tree) + totals[::-1], found[-1])
        self.assertGreater(found.count(True), 20)
        self.assertGreater(found.count(False), 20)

    def test_totals_exchanged(self):
        for web, other in UNLIKE:
            kind, tree, total, other_total = held_by_trees(web, other)
            self.check(web, other, (kind, tree, other_total, total), False)
            self.check(other, web, (kind, tree, total, other_total), False)
            self.check(other, web, (kind, tree, other_total, total), True)

    def test_totals_moved(self):
        for web, other in UNLIKE:
            kind, tree, (top, bottom), (other_top, other_bottom) = held_by_trees(web, other)
            for move in (1, -1, 2, SIXTY, 10 ** 5000):
                self.check(web, other, (kind, tree, (top + move, 1), (other_top, 1)), False)
                self.check(web, other, (kind, tree, (top, 1), (other_top + move, 1)), False)
                self.check(web, other, (kind, tree, (top + move, 1), (other_top + move, 1)), False)

    def test_totals_with_another_bottom(self):
        self.check(PATH, BARE, ("unlike", KNOT, (3, 1), (2, 1)), True)
        wrong = [((3, 2), (2, 1)), ((3, 1), (1, 2)), ((3, 1), (2, 3)), ((3, 2), (2, 3)), ((3, 4), (2, 1)),
                 ((6, 5), (4, 5)), ((1, 3), (2, 1)), ((3, 10 ** 500), (2, 1)), ((-3, 1), (2, 1)), ((3, 1), (-2, 1))]
        for total, other_total in wrong:
            self.check(PATH, BARE, ("unlike", KNOT, total, other_total), False)

    def test_alike_totals(self):
        for web, other in ALIKE[:4]:
            for tree in (KNOT, (0, []), (None, [KNOT]), deep_tree(20, (None, 0))):
                total = total_there(web, tree)
                self.assertEqual(total, total_there(other, tree))
                self.check(web, other, ("unlike", tree, total, total), False)
                for move in (1, -1, SIXTY):
                    self.check(web, other, ("unlike", tree, total, (total[0] + move, 1)), False)
                    self.check(web, other, ("unlike", tree, (total[0] + move, 1), total), False)
        self.check(PATH, ring(3), ("unlike", KNOT, (3, 1), (3, 1)), False)
        self.check(PATH, ring(3), ("unlike", (None, [KNOT]), (4, 1), (6, 1)), True)

    def test_another_tree(self):
        for web, other in UNLIKE[2:]:
            kind, tree, total, other_total = held_by_trees(web, other)
            for another in ((9, []), (None, [tree, (9, [])]), (None, [(9, [tree])])):
                self.check(web, other, (kind, another, total, other_total), False)

    def test_other_webs(self):
        for web, other in UNLIKE:
            paper = held_by_trees(web, other)
            self.check(web, web, paper, False)
            self.check(other, other, paper, False)

    def test_a_paper_of_the_other_kind(self):
        for web, other in ALIKE:
            for tree in (KNOT, (0, []), (None, [KNOT])):
                self.check(web, other, ("unlike", tree, total_there(web, tree), total_there(other, tree)), False)
        for web, other in UNLIKE:
            self.check(web, other, ("alike", table_of(web, web)), False)

    def test_twenty_deep_with_weights_of_sixty_figures(self):
        tree = deep_tree(20, (None, 5), [KNOT, (5, [])])
        other = with_weight(LARGE, 1, 1, SIXTY)
        totals = (total_there(LARGE, tree), total_there(other, tree))
        self.assertNotEqual(totals[0], totals[1])
        self.check(LARGE, other, ("unlike", tree) + totals, True)
        self.check(LARGE, other, ("unlike", tree, totals[0], (totals[1][0] + 1, 1)), False)
        self.check(LARGE, other, ("unlike", tree, (totals[0][0] - 1, 1), totals[1]), False)


class WhatIsHandedInAndTold(Held):
    def test_own(self):
        for web, other in ALIKE + UNLIKE:
            check_own(self, held_by_trees, [copy.deepcopy(web), copy.deepcopy(other)])
            paper = held_by_trees(web, other)
            check_own(self, look_trees, [copy.deepcopy(web), copy.deepcopy(other), copy.deepcopy(paper)])
        for web, other, table in WRONG_TABLES.values():
            check_own(self, look_trees, [copy.deepcopy(web), copy.deepcopy(other), ("alike", copy.deepcopy(table))])

    def test_one_web_handed_in_twice(self):
        for web in (NO_PLACES, PATH, ring(8), web_of(8)):
            self.check_alike(web, web)

    def test_papers_that_are_changed_are_looked_at_anew(self):
        paper = held_by_trees(ring(8), ring(3, 5))
        paper[1][0][0] = (0, 1)
        self.assertIs(look_trees(ring(8), ring(3, 5), paper), False)
        paper[1][0][0] = (1, 8)
        self.assertIs(look_trees(ring(8), ring(3, 5), paper), True)
        paper = held_by_trees(PATH, ring(3))
        paper[1][1].append((9, []))
        self.assertIs(look_trees(PATH, ring(3), paper), False)
        paper[1][1].pop()
        self.assertIs(look_trees(PATH, ring(3), paper), True)
