import copy
import unittest
from fractions import Fraction
from math import factorial

from evenkin.held import held_by_trees
from evenkin.pairs import held_by_pairs
from evenkin.partings import coarsest_parting, is_even
from evenkin.shares import goes_through, lots_of, turned_over
from evenkin.turnings import all_turnings, first_turning, mean_table, table_of_turning
from evenkin.webs import web_renamed
from helpers import (BARE, BARE_SIX, BARE_THREE, CUBE, LARGE, LATE_PAIRS, NO_PLACES, ONE_OF_THREE, ONE_PLACE, ORDER,
                     PAIR_ALIKE, PATH, SIXTY, THREE, TREE_ALIKE, TWO_HUES, UNLIKE_PAIRS, all_webs, as_told, check_own,
                     check_table, is_whole, numbered_anew, ring, scaled, some_webs, turnings_there, web_of,
                     web_of_own_weights, with_hue, with_weight)

LIKE_WEIGHTS = ([3] * 5, [[SIXTY] * 5 for u in range(5)])
# Webs with the number of their turnings onto themselves.
TURNED_ONTO_THEMSELVES = (
    (NO_PLACES, 1), (ONE_PLACE, 1), (([SIXTY], [[-SIXTY]]), 1), (BARE, 2), (TWO_HUES, 1), (PATH, 2), (THREE, 1),
    (BARE_THREE, 6), (ONE_OF_THREE, 2), (BARE_SIX, factorial(6)), (LIKE_WEIGHTS, factorial(5)), (ring(3), 6),
    (ring(6), 12), (ring(8), 16), (ring(3, 3), 72), (ring(3, 5), 60), (ring(4, 4), 128), (CUBE, 48), (web_of(8), 1),
    (with_hue(ring(8), 3, 1), 2), (with_weight(ring(8), 0, 2, 7), 2), (with_weight(ring(8), 0, 0, 7), 2), (LARGE, 1),
    (scaled(ring(8), SIXTY), 16), (scaled(CUBE, -SIXTY), 48), (web_of_own_weights([4, 4, 4, 5, 5, 6]), 12),
)


def table_there(turning):
    """The table of a turning by point 22."""
    size = len(turning)
    return [[(1, 1) if turning[u] == w else (0, 1) for w in range(size)] for u in range(size)]


def mean_there(web):
    """The sum of the tables of all turnings of a web onto itself by how many there are."""
    turnings = turnings_there(web, web)
    places = range(len(web[0]))
    return [[as_told(Fraction(sum(1 for turning in turnings if turning[u] == w), len(turnings))) for w in places]
            for u in places]


def led_lots(web):
    """A lot for each place: places that turnings lead to one another share one."""
    turnings = turnings_there(web, web)
    return numbered_anew([min(turning[u] for turning in turnings) for u in range(len(web[0]))])


class Turnings(unittest.TestCase):
    def check(self, web, other):
        told = all_turnings(web, other)
        self.assertIs(type(told), list)
        self.assertEqual(told, turnings_there(web, other))
        for turning in told:
            self.assertIs(type(turning), list)
            self.assertTrue(all(is_whole(place) for place in turning))
        self.assertEqual(first_turning(web, other), told[0] if told else None)
        return told

    def check_none(self, web, other):
        for one, another in ((web, other), (other, web)):
            self.assertEqual(all_turnings(one, another), [])
            self.assertIsNone(first_turning(one, another))


class AllTurnings(Turnings):
    def test_webs_onto_themselves(self):
        for web, many in TURNED_ONTO_THEMSELVES:
            self.assertEqual(len(self.check(web, web)), many)
            self.assertEqual(first_turning(web, web), list(range(len(web[0]))))

    def test_eight_places_all_alike(self):
        for weight in (0, -SIXTY):
            web = ([7] * 8, [[weight] * 8 for u in range(8)])
            told = all_turnings(web, web)
            self.assertEqual(len(told), factorial(8))
            self.assertEqual(told, turnings_there(web, web))

    def test_a_web_and_its_renaming(self):
        for web, many in TURNED_ONTO_THEMSELVES:
            size = len(web[0])
            for order in (list(range(size)), list(range(size - 1, -1, -1)), [place for place in ORDER if place < size]):
                told = self.check(web, web_renamed(web, order))
                self.assertEqual(len(told), many)
                self.assertIn([order.index(place) for place in range(size)], told)
                self.assertEqual(len(self.check(web_renamed(web, order), web)), many)

    def test_a_turning_tells_where_each_place_goes(self):
        web = web_of(4)
        self.assertEqual(all_turnings(web, web_renamed(web, [2, 0, 1, 3])), [[1, 2, 0, 3]])
        self.assertEqual(all_turnings(web_renamed(web, [2, 0, 1, 3]), web), [[2, 0, 1, 3]])
        self.assertEqual(all_turnings(PATH, PATH), [[0, 1, 2], [2, 1, 0]])
        self.assertEqual(all_turnings(PATH, web_renamed(PATH, [1, 0, 2])), [[1, 0, 2], [2, 0, 1]])
        self.assertEqual(all_turnings(BARE_THREE, BARE_THREE),
                         [[0, 1, 2], [0, 2, 1], [1, 0, 2], [1, 2, 0], [2, 0, 1], [2, 1, 0]])

    def test_webs_without_places(self):
        self.assertEqual(all_turnings(NO_PLACES, NO_PLACES), [[]])
        self.assertEqual(first_turning(NO_PLACES, NO_PLACES), [])
        for web in (ONE_PLACE, BARE, PATH, web_of(8)):
            self.check_none(NO_PLACES, web)

    def test_webs_of_unlike_many_places(self):
        webs = [([0] * size, [[0] * size for u in range(size)]) for size in range(9)]
        for web in webs:
            for other in webs:
                if len(web[0]) != len(other[0]):
                    self.check_none(web, other)

    def test_one_hue_or_one_weight_another_one(self):
        for web in (ONE_PLACE, BARE, PATH, LARGE, ring(8), CUBE, web_of(8), scaled(CUBE, SIXTY)):
            last = len(web[0]) - 1
            for other in (with_hue(web, 0, 9), with_hue(web, last, 9), with_weight(web, 0, 0, 9),
                          with_weight(web, last, last, -9), with_weight(web, 0, last, -9),
                          with_weight(web, 0, last, web[1][0][last] + 1), with_weight(web, 0, last, 1 - SIXTY)):
                for one in (other, web_renamed(other, list(range(last, -1, -1)))):
                    self.check_none(web, one)

    def test_weights_of_sixty_figures(self):
        web = ([0] * 4, [[SIXTY - abs(u - v) for v in range(4)] for u in range(4)])
        self.assertEqual(all_turnings(web, web), [[0, 1, 2, 3], [3, 2, 1, 0]])
        self.assertEqual(all_turnings(web, with_weight(web, 0, 3, SIXTY - 4)), [])
        self.assertEqual(all_turnings(web, scaled(web, -1)), [])

    def test_alike_by_trees_or_by_pairs_and_without_a_turning(self):
        for web, other in TREE_ALIKE:
            self.assertEqual(held_by_trees(web, other)[0], "alike")
            self.assertEqual(self.check(web, other), [])
        self.assertEqual(held_by_pairs(*PAIR_ALIKE)[0], "alike")
        self.check_none(*PAIR_ALIKE)
        for web in PAIR_ALIKE:
            self.assertIsNotNone(first_turning(web, web_renamed(web, list(range(15, -1, -1)))))

    def test_webs_that_are_unlike(self):
        for web, other in UNLIKE_PAIRS:
            self.check_none(web, other)

    def test_all_small_webs(self):
        webs = [NO_PLACES] + list(all_webs(1, (0, 1), (0, 1))) + list(all_webs(2, (0, 1), (0, 1)))
        webs += list(some_webs(3, (0,), (0, 1), 30, 301)) + list(some_webs(4, (0, 1), (0, 1), 20, 302))
        found = [len(self.check(web, other)) for web in webs for other in webs]
        self.assertTrue({0, 1, 2} <= set(found))

    def test_webs_of_eight_places(self):
        for web in list(some_webs(8, (0,), (0, 1), 2, 303)) + list(some_webs(8, (0, 1), (0, 1), 1, 304)):
            self.check(web, web_renamed(web, ORDER))

    def test_the_first_is_told_where_there_are_very_many(self):
        web = ([0] * 12, [[0] * 12 for u in range(12)])
        self.assertEqual(first_turning(web, web), list(range(12)))


class Tables(Turnings):
    def test_tables_of_turnings(self):
        self.assertEqual(table_of_turning([]), [])
        self.assertEqual(table_of_turning([0]), [[(1, 1)]])
        check_table(self, table_of_turning([2, 0, 1]), [[(0, 1), (0, 1), (1, 1)], [(1, 1), (0, 1), (0, 1)],
                                                        [(0, 1), (1, 1), (0, 1)]])
        for turning in (list(range(8)), ORDER, ORDER[::-1], [1, 0]):
            check_table(self, table_of_turning(turning), table_there(turning))

    def test_the_table_of_each_turning_goes_through(self):
        for web, many in TURNED_ONTO_THEMSELVES:
            size = len(web[0])
            other = web_renamed(web, [place for place in ORDER if place < size])
            for turning in all_turnings(web, other)[:20]:
                table = table_of_turning(turning)
                self.assertIs(goes_through(web, other, table), True)
                self.assertIs(goes_through(other, web, turned_over(table)), True)

    def test_lists_that_are_no_turnings_do_not_go_through(self):
        for web in (web_of(8), LATE_PAIRS[0][0]):
            self.assertIs(goes_through(web, web, table_of_turning(ORDER)), False)

    def test_means(self):
        self.assertEqual(mean_table(NO_PLACES), [])
        self.assertEqual(mean_table(ONE_PLACE), [[(1, 1)]])
        check_table(self, mean_table(PATH), [[(1, 2), (0, 1), (1, 2)], [(0, 1), (1, 1), (0, 1)],
                                             [(1, 2), (0, 1), (1, 2)]])
        for web, many in TURNED_ONTO_THEMSELVES:
            check_table(self, mean_table(web), mean_there(web))

    def test_the_mean_of_eight_places_all_alike(self):
        web = ([0] * 8, [[SIXTY] * 8 for u in range(8)])
        check_table(self, mean_table(web), [[(1, 8)] * 8 for u in range(8)])

    def test_means_go_through_and_their_lots_are_what_turnings_lead_to(self):
        webs = [web for web, many in TURNED_ONTO_THEMSELVES] + list(all_webs(3, (0,), (0, 1)))
        for web in webs + [web_renamed(web, ORDER) for web in (ring(3, 5), CUBE, with_hue(ring(8), 3, 1))]:
            mean = mean_table(web)
            lots = led_lots(web)
            self.assertIs(goes_through(web, web, mean), True)
            self.assertEqual(lots_of(mean), (lots, lots))
            self.assertIs(is_even(web, lots), True)

    def test_lots_can_be_finer_than_the_coarsest_parting(self):
        web = ring(3, 5)
        self.assertEqual(coarsest_parting(web), [0] * 8)
        self.assertEqual(lots_of(mean_table(web))[0], [0] * 3 + [1] * 5)


class WhatIsHandedInAndTold(unittest.TestCase):
    def test_own(self):
        for web, many in TURNED_ONTO_THEMSELVES:
            other = web_renamed(web, list(range(len(web[0]) - 1, -1, -1)))
            for ask in (all_turnings, first_turning):
                check_own(self, ask, [copy.deepcopy(web), copy.deepcopy(other)])
            check_own(self, mean_table, [copy.deepcopy(web)])
            check_own(self, table_of_turning, [first_turning(web, other)])
        for web, other in TREE_ALIKE:
            for ask in (all_turnings, first_turning):
                check_own(self, ask, [copy.deepcopy(web), copy.deepcopy(other)])

    def test_one_web_handed_in_twice(self):
        for web, many in TURNED_ONTO_THEMSELVES:
            before = copy.deepcopy(web)
            self.assertEqual(all_turnings(web, web), all_turnings(web, copy.deepcopy(web)))
            self.assertEqual(web, before)

    def test_a_turning_is_an_order_that_leads_back(self):
        for web, many in TURNED_ONTO_THEMSELVES:
            other = web_renamed(web, [place for place in ORDER if place < len(web[0])])
            for turning in all_turnings(web, other)[:20]:
                self.assertEqual(web_renamed(other, turning), web)
