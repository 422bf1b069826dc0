import copy
import unittest
from itertools import permutations

from evenkin.partings import coarsest_parting, coarsest_together, is_even, part_alike
from evenkin.webs import side_by_side, web_renamed
from helpers import (NO_PLACES, PATH, SIXTY, all_partings, all_webs, check_own, is_whole, numbered_anew, ring,
                     some_webs, web_of)

LARGE = ([0, 0], [[SIXTY, -SIXTY], [-SIXTY, SIXTY - 1]])


def even_there(web, lots):
    """Point 8 word by word."""
    hues, rows = web
    places = range(len(hues))
    for u in places:
        for v in places:
            if lots[u] == lots[v]:
                if hues[u] != hues[v]:
                    return False
                for lot in set(lots):
                    there = [w for w in places if lots[w] == lot]
                    if sum(rows[u][w] for w in there) != sum(rows[v][w] for w in there):
                        return False
    return True


def coarsest_there(web):
    """The one even parting in which all share a lot that share one in any."""
    places = range(len(web[0]))
    even = [lots for lots in all_partings(len(places)) if even_there(web, lots)]
    coarsest = [lots for lots in even if all(lots[u] == lots[v] for one in even for u in places for v in places
                                             if one[u] == one[v])]
    assert len(coarsest) == 1
    return coarsest[0]


def small_webs():
    yield from all_webs(0, (0,), (0,))
    yield from all_webs(1, (0, 4), (-1, 0, 2))
    yield from all_webs(2, (0, 4), (-1, 0, 1, 2))
    yield from all_webs(3, (0, 1), (0, 1))
    yield from some_webs(3, (0, 1), (-1, 0, 1), 100, 31)
    yield from some_webs(4, (0,), (0, 1), 150, 32)
    yield from some_webs(4, (0, 1), (0, 1), 100, 33)
    yield from some_webs(5, (0, 0, 0, 1), (0, 0, 1), 60, 34)
    yield from (PATH, LARGE, ring(5), ring(2, 3), web_of(4))


class IsEven(unittest.TestCase):
    def test_even_ones(self):
        self.assertIs(is_even(PATH, [0, 1, 0]), True)
        self.assertIs(is_even(PATH, [0, 1, 2]), True)
        self.assertIs(is_even(ring(6), [0, 0, 0, 0, 0, 0]), True)
        self.assertIs(is_even(ring(6), [0, 1, 0, 1, 0, 1]), True)
        self.assertIs(is_even(ring(3, 3), [0, 0, 0, 1, 1, 1]), True)

    def test_two_hues_in_one_lot(self):
        self.assertIs(is_even(([0, 1], [[0, 0], [0, 0]]), [0, 0]), False)
        self.assertIs(is_even(([0, 1], [[0, 0], [0, 0]]), [0, 1]), True)
        self.assertIs(is_even(([0, 0], [[0, 0], [0, 0]]), [0, 0]), True)
        self.assertIs(is_even(([0, 1, 2], [[0] * 3 for u in range(3)]), [0, 1, 0]), False)
        self.assertIs(is_even(([SIXTY, SIXTY - 1], [[0, 0], [0, 0]]), [0, 0]), False)

    def test_unlike_sums_to_another_lot(self):
        web = ([0, 0, 1], [[0, 0, 2], [0, 0, 3], [2, 3, 0]])
        self.assertIs(is_even(web, [0, 0, 1]), False)
        self.assertIs(is_even(web, [0, 1, 2]), True)

    def test_unlike_sums_to_the_lot_itself(self):
        self.assertIs(is_even(([0, 0], [[1, 5], [5, 2]]), [0, 0]), False)
        self.assertIs(is_even(([0, 0], [[1, 5], [5, 1]]), [0, 0]), True)
        self.assertIs(is_even(PATH, [0, 0, 0]), False)
        self.assertIs(is_even(LARGE, [0, 0]), False)

    def test_like_sums_of_unlike_weights(self):
        web = ([0, 0, 1, 1], [[0, 0, 1, 4], [0, 0, 4, 1], [1, 4, 0, 0], [4, 1, 0, 0]])
        self.assertIs(is_even(web, [0, 0, 1, 1]), True)
        self.assertIs(is_even(web, [0, 0, 1, 2]), False)
        self.assertIs(is_even(web, [0, 1, 2, 2]), False)

    def test_like_sums_to_all_places_but_not_to_each_lot(self):
        web = ([0, 0, 1, 2], [[0, 0, 1, 4], [0, 0, 4, 1], [1, 4, 0, 0], [4, 1, 0, 0]])
        self.assertIs(is_even(web, [0, 0, 1, 2]), False)

    def test_the_web_without_places(self):
        self.assertIs(is_even(NO_PLACES, []), True)

    def test_each_place_its_own_lot_is_even(self):
        for web in small_webs():
            self.assertIs(is_even(web, list(range(len(web[0])))), True)

    def test_all_partings_of_small_webs(self):
        for web in small_webs():
            for lots in all_partings(len(web[0])):
                with self.subTest(web=web, lots=lots):
                    self.assertIs(is_even(web, lots), even_there(web, lots))

    def test_sixteen_places(self):
        both = side_by_side(ring(8), ring(8))
        self.assertIs(is_even(both, [0] * 16), True)
        self.assertIs(is_even(both, [0] * 8 + [1] * 8), True)
        self.assertIs(is_even(both, [0, 1] * 8), True)
        self.assertIs(is_even(both, [0] * 15 + [1]), False)
        self.assertIs(is_even(side_by_side(ring(8), ring(3, 5)), [0] * 16), True)


class CoarsestParting(unittest.TestCase):
    def check(self, web, right):
        told = coarsest_parting(web)
        self.assertIs(type(told), list)
        self.assertTrue(all(is_whole(lot) for lot in told))
        self.assertEqual(told, right)

    def test_written_out(self):
        self.check(NO_PLACES, [])
        self.check(([7], [[-3]]), [0])
        self.check(PATH, [0, 1, 0])
        self.check(ring(8), [0] * 8)
        self.check(ring(3, 5), [0] * 8)
        self.check(web_of(8), list(range(8)))
        self.check(LARGE, [0, 1])
        self.check(([9, 4, 9, 4], [[0] * 4 for u in range(4)]), [0, 1, 0, 1])

    def test_a_path_of_eight_places(self):
        rows = [[1 if abs(u - v) == 1 else 0 for v in range(8)] for u in range(8)]
        self.check(([0] * 8, rows), [0, 1, 2, 3, 3, 2, 1, 0])
        self.check(([1] + [0] * 7, rows), list(range(8)))

    def test_a_place_with_a_weight_with_itself(self):
        self.check(([0, 0, 0], [[1, 0, 0], [0, 0, 0], [0, 0, 1]]), [0, 1, 0])
        self.check(([0, 0], [[1, 0], [0, 1]]), [0, 0])
        self.check(([0, 0, 0], [[0, 1, 1], [1, 0, 1], [1, 1, 0]]), [0, 0, 0])

    def test_weights_that_come_to_nought(self):
        self.check(([0, 0, 0], [[0, 1, -1], [1, 0, 0], [-1, 0, 0]]), [0, 1, 2])
        self.check(([0, 0, 0, 0], [[0, 1, 0, -1], [1, 0, -1, 0], [0, -1, 0, 1], [-1, 0, 1, 0]]), [0, 0, 0, 0])

    def test_against_all_partings_of_small_webs(self):
        for web in small_webs():
            with self.subTest(web=web):
                self.check(web, coarsest_there(web))

    def test_six_places(self):
        for web in list(some_webs(6, (0,), (0, 0, 1), 12, 35)) + [ring(6), ring(3, 3), ring(2, 4)]:
            self.check(web, coarsest_there(web))

    def test_numbered_in_the_order_of_places(self):
        for web in list(small_webs()) + list(some_webs(8, (3, 1, 0), (0, 1), 50, 36)):
            told = coarsest_parting(web)
            self.check(web, numbered_anew(told))

    def test_a_web_renamed(self):
        webs = list(some_webs(4, (0, 1), (0, 1), 20, 37)) + [ring(2, 2), ([3, 0, 3, 0], [[0] * 4 for u in range(4)])]
        for web in webs:
            lots = coarsest_parting(web)
            for order in permutations(range(4)):
                self.check(web_renamed(web, list(order)), numbered_anew([lots[place] for place in order]))

    def test_eight_places_renamed(self):
        for web in some_webs(8, (0,), (0, 1), 40, 38):
            lots = coarsest_parting(web)
            for order in ([7, 6, 5, 4, 3, 2, 1, 0], [3, 1, 0, 7, 6, 2, 5, 4]):
                self.check(web_renamed(web, order), numbered_anew([lots[place] for place in order]))

    def test_sixteen_places(self):
        self.check(side_by_side(ring(8), ring(3, 5)), [0] * 16)
        self.check(side_by_side(ring(8), ring(1, 7)), [0] * 8 + [1] + [0] * 7)
        rows = [[1 if abs(u - v) == 1 else 0 for v in range(16)] for u in range(16)]
        self.check(([0] * 16, rows), list(range(8)) + list(range(8))[::-1])
        self.check(side_by_side(web_of(8), web_of(8)), list(range(8)) * 2)


def any_two_webs():
    webs = [NO_PLACES, ([0], [[0]]), ([1], [[0]]), ([0], [[1]]), PATH, LARGE, ring(4), ring(2, 2), ring(3)]
    webs += list(some_webs(2, (0, 1), (0, 1), 6, 41)) + list(some_webs(3, (0,), (0, 1), 6, 42))
    return [(web, other) for web in webs for other in webs]


def parts_alike_there(web, other):
    """Point 9 by the coarsest parting of both webs beside one another, each lot counted."""
    lots = coarsest_there(side_by_side(web, other))
    here, there = lots[:len(web[0])], lots[len(web[0]):]
    return all(here.count(lot) == there.count(lot) for lot in lots)


class CoarsestTogether(unittest.TestCase):
    def check(self, web, other, right):
        told = coarsest_together(web, other)
        self.assertIs(type(told), tuple)
        self.assertEqual([type(lots) for lots in told], [list, list])
        self.assertTrue(all(is_whole(lot) for lots in told for lot in lots))
        self.assertEqual(told, right)

    def test_written_out(self):
        self.check(PATH, PATH, ([0, 1, 0], [0, 1, 0]))
        self.check(ring(6), ring(3, 3), ([0] * 6, [0] * 6))
        self.check(PATH, ring(3), ([0, 1, 0], [2, 2, 2]))
        self.check(ring(3), PATH, ([0, 0, 0], [1, 2, 1]))
        self.check(web_of(3), web_of(4), ([0, 1, 2], [3, 4, 5, 6]))

    def test_the_second_list_goes_on_where_the_first_ends(self):
        here = ([5, 6, 5], [[0] * 3 for u in range(3)])
        there = ([8, 6, 9, 8], [[0] * 4 for u in range(4)])
        self.check(here, there, ([0, 1, 0], [2, 1, 3, 2]))
        self.check(there, here, ([0, 1, 2, 0], [3, 1, 3]))

    def test_webs_without_places(self):
        self.check(NO_PLACES, NO_PLACES, ([], []))
        self.check(NO_PLACES, PATH, ([], [0, 1, 0]))
        self.check(PATH, NO_PLACES, ([0, 1, 0], []))

    def test_a_web_and_its_renaming(self):
        for web in some_webs(8, (0, 1), (0, 1), 20, 43):
            order = [3, 1, 0, 7, 6, 2, 5, 4]
            lots = coarsest_parting(web)
            self.check(web, web_renamed(web, order), (lots, [lots[place] for place in order]))

    def test_against_the_parting_of_both_beside_one_another(self):
        webs = [NO_PLACES, PATH, ring(8), ring(3, 5), web_of(8), LARGE] + list(some_webs(8, (0, 1), (0, 1), 5, 44))
        for web in webs:
            for other in webs:
                lots = coarsest_parting(side_by_side(web, other))
                self.check(web, other, (lots[:len(web[0])], lots[len(web[0]):]))

    def test_against_all_partings_of_small_webs_beside_one_another(self):
        for web, other in any_two_webs():
            if len(web[0]) + len(other[0]) <= 6:
                lots = coarsest_there(side_by_side(web, other))
                self.check(web, other, (lots[:len(web[0])], lots[len(web[0]):]))


class PartAlike(unittest.TestCase):
    def check(self, web, other, right):
        self.assertIs(part_alike(web, other), right)
        self.assertIs(part_alike(other, web), right)

    def test_a_web_with_itself_and_its_renamings(self):
        for web in list(some_webs(4, (0, 1), (0, 1, 2), 10, 45)) + [NO_PLACES, PATH, LARGE, ring(8), web_of(8)]:
            self.check(web, copy.deepcopy(web), True)
            self.assertIs(part_alike(web, web), True)
            self.check(web, web_renamed(web, list(range(len(web[0])))[::-1]), True)

    def test_alike_without_being_renamings(self):
        self.check(ring(6), ring(3, 3), True)
        self.check(ring(8), ring(4, 4), True)
        self.check(ring(8), ring(3, 5), True)

    def test_webs_of_unlike_many_places(self):
        self.check(ring(3), ring(4), False)
        self.check(ring(3), ring(3, 3), False)
        self.check(PATH, ([0, 0, 0, 0], [row + [0] for row in PATH[1]] + [[0] * 4]), False)
        self.check(NO_PLACES, ([0], [[0]]), False)

    def test_webs_without_places(self):
        self.check(NO_PLACES, NO_PLACES, True)
        self.check(NO_PLACES, PATH, False)

    def test_as_many_places_but_not_of_each_lot(self):
        rows = [[0] * 3 for u in range(3)]
        self.check(([0, 0, 1], rows), ([0, 1, 1], rows), False)
        self.check(([0, 0, 1], rows), ([0, 1, 0], rows), True)
        star = ([0] * 4, [[0, 1, 1, 1], [1, 0, 0, 0], [1, 0, 0, 0], [1, 0, 0, 0]])
        path = ([0] * 4, [[0, 1, 0, 0], [1, 0, 1, 0], [0, 1, 0, 1], [0, 0, 1, 0]])
        self.check(star, path, False)
        self.check(star, web_renamed(star, [1, 2, 0, 3]), True)

    def test_one_hue_another_one(self):
        for web in (ring(8), web_of(8), PATH, ([3], [[0]])):
            for place in range(len(web[0])):
                other = copy.deepcopy(web)
                other[0][place] = 55
                self.check(web, other, False)

    def test_one_weight_another_one(self):
        for web in (ring(8), web_of(8), PATH, ([3], [[0]])):
            for u in range(len(web[0])):
                for v in range(u + 1):
                    other = copy.deepcopy(web)
                    other[1][u][v] = other[1][v][u] = web[1][u][v] + 7
                    self.check(web, other, False)

    def test_weights_of_sixty_figures(self):
        other = ([0, 0], [[SIXTY - 1, -SIXTY], [-SIXTY, SIXTY]])
        self.check(LARGE, other, True)
        self.check(LARGE, ([0, 0], [[SIXTY, -SIXTY], [-SIXTY, SIXTY]]), False)

    def test_against_all_partings_of_small_webs_beside_one_another(self):
        alike = []
        for web, other in any_two_webs():
            if len(web[0]) + len(other[0]) <= 6:
                alike.append(parts_alike_there(web, other))
                self.check(web, other, alike[-1])
        self.assertEqual(set(alike), {True, False})

    def test_either_way_round(self):
        webs = list(some_webs(4, (0,), (0, 1), 25, 46))
        for web in webs:
            for other in webs:
                self.assertIs(part_alike(web, other), part_alike(other, web))


class WhatIsHandedInAndTold(unittest.TestCase):
    def test_own(self):
        for web in (NO_PLACES, PATH, ring(8), web_of(8)):
            size = len(web[0])
            check_own(self, is_even, [copy.deepcopy(web), list(range(size))])
            check_own(self, is_even, [copy.deepcopy(web), [0] * size])
            check_own(self, coarsest_parting, [copy.deepcopy(web)])
            for other in (NO_PLACES, PATH, ring(3, 5)):
                check_own(self, coarsest_together, [copy.deepcopy(web), copy.deepcopy(other)])
                check_own(self, part_alike, [copy.deepcopy(web), copy.deepcopy(other)])

    def test_what_is_told_may_be_handed_in_again(self):
        for web in small_webs():
            self.assertIs(is_even(web, coarsest_parting(web)), True)

    def test_a_web_that_is_changed_is_parted_anew(self):
        web = copy.deepcopy(PATH)
        before = coarsest_parting(web)
        web[0][0] = 1
        self.assertEqual(coarsest_parting(web), [0, 1, 2])
        self.assertIs(is_even(web, before), False)
        self.assertIs(part_alike(web, PATH), False)
        self.assertEqual(before, [0, 1, 0])
