import copy
import unittest
from itertools import product

from evenkin.parters import parting_tree
from evenkin.partings import part_alike
from evenkin.rows import total_of
from evenkin.trees import knots_of, maps_total, term_of
from evenkin.webs import web_renamed
from helpers import (LATE_PAIRS, LIKE_POWERS, NO_PLACES, ORDER, PATH, SIXTY, all_webs, check_own, depth_of_tree,
                     is_tree, lists_in, ring, scaled, some_webs, sums_by_place, web_of, web_of_own_weights,
                     web_of_ties, with_hue, with_weight)


class Parters(unittest.TestCase):
    def check_one_way(self, web, other, alike):
        told = parting_tree(web, other)
        if alike:
            self.assertIsNone(told)
        else:
            self.assertTrue(is_tree(told))
            self.assertLessEqual(depth_of_tree(told), 16)
            self.assertNotEqual(sum(sums_by_place(web, told)), sum(sums_by_place(other, told)))

    def check(self, web, other, alike):
        self.assertIs(part_alike(web, other), alike)
        self.check_one_way(web, other, alike)
        self.check_one_way(other, web, alike)


class Alike(Parters):
    def test_a_web_and_its_renamings(self):
        for web in [web_of(8), ring(8), LATE_PAIRS[0][0], LIKE_POWERS[0]] + list(some_webs(8, (0, 1), (0, 1), 6, 61)):
            self.check(web, copy.deepcopy(web), True)
            self.check(web, web_renamed(web, ORDER), True)
            self.check(web, web_renamed(web, ORDER[::-1]), True)

    def test_webs_that_are_no_renamings(self):
        self.check(ring(6), ring(3, 3), True)
        self.check(ring(8), ring(4, 4), True)
        self.check(ring(8), ring(3, 5), True)
        self.check(scaled(ring(7), SIXTY), scaled(ring(3, 4), SIXTY), True)

    def test_webs_without_places(self):
        self.check(NO_PLACES, NO_PLACES, True)
        self.assertIsNone(parting_tree(NO_PLACES, ([], [])))


class Unlike(Parters):
    def test_webs_of_unlike_many_places(self):
        for web, other in ((ring(3), ring(4)), (ring(8), ring(7)), (web_of(3), web_of(4)), (ring(3), ring(3, 3)),
                           (PATH, ([0] * 4, [row + [0] for row in PATH[1]] + [[0] * 4]))):
            self.check(web, other, False)

    def test_webs_without_places_on_one_side(self):
        for web in (([0], [[0]]), ([7], [[-3]]), PATH, ring(8), web_of(8), ([SIXTY], [[0]])):
            self.check(NO_PLACES, web, False)

    def test_one_hue_another_one(self):
        for web in (ring(8), web_of(8), PATH, ([3], [[0]]), LATE_PAIRS[1][0]):
            for place in range(len(web[0])):
                for hue in (1, 55, SIXTY):
                    self.check(web, with_hue(web, place, hue), False)

    def test_one_weight_another_one(self):
        for web in (ring(8), web_of(8), PATH, ([3], [[0]]), LATE_PAIRS[1][0]):
            for u in range(len(web[0])):
                for v in range(u + 1):
                    for weight in (web[1][u][v] + 7, -web[1][u][v] - 1, SIXTY):
                        self.check(web, with_weight(web, u, v, weight), False)

    def test_hues_exchanged(self):
        self.check(([0, 0, 1], PATH[1]), ([0, 1, 0], PATH[1]), False)
        self.check(([0, 0, 1], [[0] * 3 for u in range(3)]), ([1, 0, 1], [[0] * 3 for u in range(3)]), False)
        ties = "01 12 23 45 56 67"
        self.check(([1, 0, 0, 2, 3, 0, 0, 4], web_of_ties(8, ties)[1]),
                   ([1, 0, 0, 4, 3, 0, 0, 2], web_of_ties(8, ties)[1]), False)

    def test_paths_of_as_many_ends(self):
        self.check(web_of_ties(8, "01 12 34 45 56 67"), web_of_ties(8, "01 12 23 45 56 67"), False)
        self.check(web_of_ties(8, "01 12 23 34 45 67"), web_of_ties(8, "01 12 23 45 56 67"), False)

    def test_parted_behind_many_turns(self):
        for web, other in LATE_PAIRS:
            for factor in (1, -1, 3, SIXTY, -SIXTY):
                self.check(scaled(web, factor), scaled(other, factor), False)
            self.check(web_renamed(web, ORDER), web_renamed(other, ORDER[::-1]), False)

    def test_parted_only_by_high_powers(self):
        web, other = LIKE_POWERS
        for factor in (1, -1, 10 ** 57 + 7):
            self.check(scaled(web, factor), scaled(other, factor), False)
        self.check(web_of_own_weights([0, 3, 5, 11, 13, 16]), web_of_own_weights([1, 1, 8, 8, 15, 15]), False)

    def test_by_hues_and_weights_only_together(self):
        zeros = [0] * 4
        web = ([0, 0, 1, 1], [[1, 0, 0, 0], [0, 2, 0, 0], [0, 0, 3, 0], [0, 0, 0, 4]])
        for hues, weights in (([0, 0, 1, 1], (1, 3, 2, 4)), ([0, 1, 0, 1], (1, 2, 3, 4))):
            rows = [zeros[:u] + [weights[u]] + zeros[u + 1:] for u in range(4)]
            self.check(web, (hues, rows), False)

    def test_products_of_several_sums(self):
        # Each place's sums to the two hues, taken one by one, are alike in both webs.
        def star(pairs):
            size = len(pairs)
            rows = [[0] * size + list(pair) for pair in pairs] + [[pair[k] for pair in pairs] + [0, 0] for k in (0, 1)]
            return ([0] * size + [1, 2], rows)
        self.check(star([(0, 0), (0, 1), (1, 0), (1, 1)]), star([(0, 0), (1, 1), (0, 0), (1, 1)]), False)
        self.check(star([(0, 0), (0, 1), (1, 0), (1, 1)]), star([(0, 1), (1, 0), (0, 1), (1, 0)]), False)

    def test_weights_that_come_to_nought(self):
        self.check(([0, 0], [[1, -1], [-1, 1]]), ([0, 0], [[0, 0], [0, 0]]), True)
        self.check(([0, 0], [[1, -1], [-1, 1]]), ([0, 0], [[2, -2], [-2, 2]]), True)
        self.check(([0, 1], [[1, -1], [-1, 1]]), ([0, 1], [[2, -2], [-2, 2]]), False)
        self.check(([0, 0, 0], [[0, 1, -1], [1, 0, 0], [-1, 0, 0]]), ([0, 0, 0], [[0] * 3 for u in range(3)]), False)

    def test_weights_of_sixty_figures(self):
        large = ([0, 0], [[SIXTY, -SIXTY], [-SIXTY, SIXTY - 1]])
        self.check(large, ([0, 0], [[SIXTY - 1, -SIXTY], [-SIXTY, SIXTY]]), True)
        self.check(large, ([0, 0], [[SIXTY, -SIXTY], [-SIXTY, SIXTY]]), False)
        self.check(large, ([0, 0], [[SIXTY - 1, 1 - SIXTY], [1 - SIXTY, SIXTY - 2]]), False)
        self.check(large, ([0, SIXTY], large[1]), False)


class AnyTwoWebs(Parters):
    def check_any(self, webs):
        found = []
        for web, other in product(webs, repeat=2):
            found.append(part_alike(web, other))
            self.check_one_way(web, other, found[-1])
        self.assertEqual(set(found), {True, False})

    def test_small_ones(self):
        self.check_any([NO_PLACES] + list(all_webs(1, (0, 1), (-1, 0, 1))) + list(all_webs(2, (0,), (-1, 0, 1)))
                       + list(some_webs(2, (0, 1), (-1, 0, 1), 20, 62)))

    def test_three_and_four_places(self):
        self.check_any(list(some_webs(3, (0, 1), (0, 1), 40, 63)))
        self.check_any(list(some_webs(4, (0,), (0, 1), 50, 64)))

    def test_eight_places(self):
        self.check_any(list(some_webs(8, (0, 1), (0, 1), 15, 65)))

    def test_eight_places_with_few_things_changed(self):
        for web in some_webs(8, (0,), (0, 0, 1), 60, 66):
            # The ties 0 to 1 and 2 to 3 for 0 to 2 and 1 to 3, as far as there are any.
            rows = web[1]
            other = copy.deepcopy(web)
            for (u, v), (x, y) in (((0, 1), (0, 2)), ((0, 2), (0, 1)), ((2, 3), (1, 3)), ((1, 3), (2, 3))):
                other[1][u][v] = other[1][v][u] = rows[x][y]
            self.check(web, other, part_alike(web, other))

    def test_nine_places(self):
        webs = list(some_webs(9, (0,), (0, 1), 8, 67)) + [ring(9), ring(4, 5), ring(1, 8)]
        self.check_any(webs)


class WhatIsHandedInAndTold(Parters):
    def test_own(self):
        pairs = ((NO_PLACES, NO_PLACES), (NO_PLACES, PATH), (PATH, ring(3)), (ring(8), ring(3, 5)),
                 (web_of(8), ring(8)))
        for web, other in pairs + LATE_PAIRS + (LIKE_POWERS,):
            check_own(self, parting_tree, [copy.deepcopy(web), copy.deepcopy(other)])
            check_own(self, parting_tree, [copy.deepcopy(other), copy.deepcopy(web)])

    def test_no_bough_stands_twice(self):
        for web, other in LATE_PAIRS:
            lists = lists_in(parting_tree(web, other))
            self.assertEqual(len({id(one) for one in lists}), len(lists))

    def test_what_is_told_may_be_handed_in_again(self):
        for web, other in LATE_PAIRS + (LIKE_POWERS,):
            tree = parting_tree(web, other)
            self.assertEqual(maps_total(web, tree), sum(sums_by_place(web, tree)))
            self.assertNotEqual(total_of(web, term_of(tree)), total_of(other, term_of(tree)))
            self.assertEqual(knots_of(tree), len(lists_in(tree)))

    def test_webs_that_are_changed_are_parted_anew(self):
        web, other = copy.deepcopy(PATH), copy.deepcopy(PATH)
        self.check(web, other, True)
        web[0][1] = 2
        self.check(web, other, False)
        other[0][1] = 2
        self.check(web, other, True)
