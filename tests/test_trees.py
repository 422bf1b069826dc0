import copy
import unittest
from itertools import product
from math import prod

from evenkin.rows import row_of, total_of
from evenkin.trees import knots_of, maps_total, term_of
from evenkin.webs import side_by_side, web_renamed
from helpers import NO_PLACES, SIXTY, all_webs, check_own, deep_tree, is_whole, ring, some_webs, sums_by_place, web_of

KNOT = (None, [])
ONE = ("one",)
THREE = ([0, 1, 0], [[2, -3, 0], [-3, 0, 5], [0, 5, 7]])
EIGHT = next(some_webs(8, (0, 1, 5), (-4, -1, 0, 0, 1, 2, 3), 1, 8))
LARGE = ([0, SIXTY], [[SIXTY, -SIXTY], [-SIXTY, SIXTY - 1]])


def all_boughs(knots, wishes):
    """Every list of trees with so many knots in all."""
    if knots == 0:
        yield []
    for first in range(1, knots + 1):
        for tree in all_trees(first, wishes):
            for rest in all_boughs(knots - first, wishes):
                yield [copy.deepcopy(tree)] + rest


def all_trees(knots, wishes):
    """Every tree with so many knots and wishes among those."""
    for wish in wishes:
        for boughs in all_boughs(knots - 1, wishes):
            yield (wish, boughs)


def knots_and_stems(tree, stem=None, found=None):
    """The wish of each knot, with the number of the knot whose bough it begins."""
    found = [] if found is None else found
    number = len(found)
    found.append((tree[0], stem))
    for bough in tree[1]:
        knots_and_stems(bough, number, found)
    return found


def sum_over_maps(web, tree):
    """Point 7 word by word: all maps, one by one."""
    hues, rows = web
    knots = knots_and_stems(tree)
    total = 0
    for places in product(range(len(hues)), repeat=len(knots)):
        if all(wish is None or hues[place] == wish for (wish, stem), place in zip(knots, places)):
            total += prod(rows[places[stem]][place] for (wish, stem), place in zip(knots, places) if stem is not None)
    return total


class TermOf(unittest.TestCase):
    def test_one_knot(self):
        self.assertEqual(term_of((None, [])), ("one",))
        for wish in (0, 1, 7, SIXTY):
            self.assertEqual(term_of((wish, [])), ("hue", wish))

    def test_one_bough(self):
        self.assertEqual(term_of((None, [KNOT])), ("both", ("one",), ("near", ("one",))))
        self.assertEqual(term_of((3, [(0, [])])), ("both", ("hue", 3), ("near", ("hue", 0))))

    def test_several_boughs_in_order(self):
        told = term_of((None, [(0, []), (1, []), (None, [])]))
        right = ("both", ("one",), ("near", ("hue", 0)))
        right = ("both", right, ("near", ("hue", 1)))
        right = ("both", right, ("near", ("one",)))
        self.assertEqual(told, right)

    def test_boughs_of_boughs(self):
        told = term_of((2, [(None, [(4, []), (5, [])]), (6, [(7, [])])]))
        first = ("both", ("both", ("one",), ("near", ("hue", 4))), ("near", ("hue", 5)))
        second = ("both", ("hue", 6), ("near", ("hue", 7)))
        self.assertEqual(told, ("both", ("both", ("hue", 2), ("near", first)), ("near", second)))

    def test_twenty_deep(self):
        tree, right = (3, []), ("hue", 3)
        for turn in range(19):
            tree, right = (None, [tree]), ("both", ONE, ("near", right))
        self.assertEqual(term_of(tree), right)

    def test_unlike_trees_have_unlike_terms(self):
        trees = [tree for knots in range(1, 5) for tree in all_trees(knots, (None, 0, 1))]
        self.assertEqual(len(trees), 3 + 9 + 54 + 405)
        self.assertEqual(len({term_of(tree) for tree in trees}), len(trees))


class KnotsOf(unittest.TestCase):
    def test_one_knot(self):
        self.assertEqual(knots_of((None, [])), 1)
        self.assertEqual(knots_of((0, [])), 1)

    def test_all_small_trees(self):
        for knots in range(1, 6):
            for tree in all_trees(knots, (None, 0)):
                self.assertEqual(knots_of(tree), knots)
                self.assertTrue(is_whole(knots_of(tree)))

    def test_deep_and_wide_ones(self):
        self.assertEqual(knots_of(deep_tree(20, (None, 4))), 20)
        self.assertEqual(knots_of((None, [(1, []) for bough in range(300)])), 301)
        self.assertEqual(knots_of(deep_tree(20, (0,), [KNOT, (2, [KNOT])])), 20 + 19 * 3)


class MapsTotal(unittest.TestCase):
    def check(self, web, tree, right):
        told = maps_total(web, tree)
        self.assertTrue(is_whole(told))
        self.assertEqual(told, right)
        self.assertEqual(total_of(web, term_of(tree)), (right, 1))

    def test_written_out(self):
        self.check(THREE, KNOT, 3)
        self.check(THREE, (0, []), 2)
        self.check(THREE, (None, [KNOT]), 13)
        self.check(THREE, (0, [(0, [])]), 9)
        self.check(THREE, (1, [(0, [])]), 2)
        self.check(THREE, (None, [KNOT, KNOT]), 149)
        self.check(THREE, (0, [(1, []), (1, [])]), 34)

    def test_all_maps_of_small_trees_into_small_webs(self):
        webs = [NO_PLACES, ([0], [[-2]]), ([1], [[3]]), ([0, 1], [[1, -2], [-2, 0]]), THREE]
        webs += list(some_webs(3, (0, 1, 2), (-2, -1, 0, 1, 3), 4, 21))
        for knots in range(1, 5):
            for tree in all_trees(knots, (None, 0, 1)):
                for web in webs:
                    self.check(web, tree, sum_over_maps(web, tree))

    def test_trees_of_five_knots(self):
        for tree in all_trees(5, (None, 1)):
            self.check(THREE, tree, sum_over_maps(THREE, tree))

    def test_all_webs_of_two_places(self):
        trees = [(0, [(None, [(1, [])]), (1, [])]), (None, [(0, [(0, []), KNOT])])]
        for web in all_webs(2, (0, 1, 2), (-2, 0, 1)):
            for tree in trees:
                self.check(web, tree, sum_over_maps(web, tree))

    def test_nought_where_no_map_is_there(self):
        for tree in (KNOT, (0, []), (None, [KNOT]), deep_tree(20, (None,))):
            self.check(NO_PLACES, tree, 0)
        self.check(THREE, (2, []), 0)
        self.check(THREE, (0, [(2, [])]), 0)
        self.check(THREE, (None, [KNOT, (None, [(SIXTY, [])])]), 0)

    def test_nought_where_maps_count_nought(self):
        self.check(([0, 1], [[0, 0], [0, 5]]), (0, [KNOT]), 0)
        self.check(([0, 0], [[1, -1], [-1, 1]]), (None, [KNOT]), 0)

    def test_eight_places(self):
        for tree in ((None, [KNOT, (1, [])]), (5, [(0, [KNOT])]), (None, [(None, [KNOT])])):
            self.check(EIGHT, tree, sum_over_maps(EIGHT, tree))

    def test_walks_round_a_ring(self):
        for depth in range(1, 21):
            self.check(ring(7), deep_tree(depth, (None,)), 7 * 2 ** (depth - 1))
            self.check(ring(3, 3), deep_tree(depth, (None,)), 6 * 2 ** (depth - 1))

    def test_twenty_deep(self):
        for wishes in ((None,), (0,), (0, 1), (None, 0, 5)):
            for beside in ((), [(None, [])], [(1, []), (None, [(0, []), KNOT])]):
                tree = deep_tree(20, wishes, beside)
                for web in (([0], [[-1]]), THREE, EIGHT, LARGE, web_of(8)):
                    self.check(web, tree, sum(sums_by_place(web, tree)))

    def test_twenty_deep_with_three_hundred_boughs_each(self):
        tree = deep_tree(20, (None, 0), [(0, []), KNOT, (None, [KNOT])] * 99 + [KNOT, KNOT])
        self.assertEqual(knots_of(tree), 1 + 19 * (1 + 99 * 4 + 2))
        for web in (THREE, LARGE):
            self.check(web, tree, sum(sums_by_place(web, tree)))

    def test_weights_of_sixty_figures(self):
        self.check(LARGE, (None, [KNOT]), -1)
        self.check(LARGE, (0, [(SIXTY, [(0, [])])]), SIXTY * SIXTY)
        self.check(LARGE, (0, [(0, []), (SIXTY, [])]), -SIXTY * SIXTY)

    def test_two_webs_beside_one_another(self):
        for tree in all_trees(4, (None, 0)):
            both = side_by_side(THREE, EIGHT)
            self.check(both, tree, maps_total(THREE, tree) + maps_total(EIGHT, tree))

    def test_a_web_renamed(self):
        for tree in all_trees(4, (None, 0)):
            self.check(web_renamed(EIGHT, [3, 1, 0, 7, 6, 2, 5, 4]), tree, maps_total(EIGHT, tree))

    def test_the_row_of_the_term_tells_the_sums_by_the_first_knot(self):
        for tree in all_trees(4, (None, 0, 1)):
            self.assertEqual(row_of(THREE, term_of(tree)), [(value, 1) for value in sums_by_place(THREE, tree)])


class WhatIsHandedInAndTold(unittest.TestCase):
    def test_own(self):
        for tree in (KNOT, (0, []), (None, [KNOT, (1, [(0, [])])]), deep_tree(20, (None, 0), [(1, [])])):
            check_own(self, term_of, [copy.deepcopy(tree)])
            check_own(self, knots_of, [copy.deepcopy(tree)])
            for web in (NO_PLACES, THREE):
                check_own(self, maps_total, [copy.deepcopy(web), copy.deepcopy(tree)])

    def test_a_tree_may_have_one_bough_twice(self):
        bough = (0, [KNOT])
        tree = (None, [bough, bough])
        self.assertEqual(knots_of(tree), 5)
        self.assertEqual(maps_total(THREE, tree), sum_over_maps(THREE, tree))

    def test_a_tree_that_is_changed_is_reckoned_anew(self):
        tree = (None, [(0, [])])
        before = term_of(tree)
        self.assertEqual((knots_of(tree), maps_total(THREE, tree)), (2, 11))
        tree[1][0][1].append((1, []))
        tree[1].append((2, []))
        self.assertEqual((knots_of(tree), maps_total(THREE, tree)), (4, 0))
        self.assertEqual(before, ("both", ONE, ("near", ("hue", 0))))
