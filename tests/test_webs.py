import copy
import unittest
from itertools import permutations, product

from evenkin.errors import KinError, NoOrder, NoWeb
from evenkin.webs import look_at_web, side_by_side, web_renamed
from helpers import NO_PLACES, SIXTY, check_own, is_whole, lists_in, web_of

ONE_PLACE = ([7], [[-3]])
TWO_PLACES = ([0, 1], [[4, 5], [5, 6]])
FOUR_PLACES = ([3, 0, 3, 8], [[1, 2, -3, 0], [2, 5, 6, 7], [-3, 6, 0, -9], [0, 7, -9, 10]])


def changed(web, change):
    other = copy.deepcopy(web)
    change(*other)
    return other


def wrong_place(hues, rows):
    """Point 4 word by word: the place that the refusal bears, or None."""
    size = len(hues)
    fit = [u for u in range(size) if u < len(rows) and len(rows[u]) == size]
    wrong = [u for u in range(size) if hues[u] < 0]
    wrong += [u for u in range(size) if u not in fit]
    wrong += [u for u in fit for v in fit if rows[u][v] != rows[v][u]]
    if wrong:
        return min(wrong)
    return size if len(rows) > size else None


class LookAtWeb(unittest.TestCase):
    def check_right(self, web):
        self.assertIsNone(look_at_web(web))

    def check_wrong(self, web, place):
        with self.assertRaises(NoWeb) as taken:
            look_at_web(web)
        self.assertIsInstance(taken.exception, KinError)
        self.assertEqual(taken.exception.place, place)
        self.assertTrue(is_whole(taken.exception.place))


class RightWebs(LookAtWeb):
    def test_without_places(self):
        self.check_right(NO_PLACES)

    def test_of_one_to_eight_places(self):
        for size in range(1, 9):
            self.check_right(web_of(size))

    def test_weights_of_a_place_with_itself(self):
        self.check_right(([0], [[5]]))
        self.check_right(([0], [[-5]]))
        self.check_right(([0, 0], [[1, 0], [0, -1]]))

    def test_sixty_figures(self):
        self.check_right(([SIXTY, 0], [[SIXTY, -SIXTY], [-SIXTY, SIXTY - 1]]))

    def test_hue_nought_and_hues_alike(self):
        self.check_right(([0, 0, 0], [[0, 0, 0], [0, 0, 0], [0, 0, 0]]))

    def test_equal_weights_need_not_be_one_object(self):
        self.check_right(([0, 0], [[0, int("9" * 40)], [int("9" * 40), 0]]))

    def test_rows_may_be_one_list(self):
        row = [1, 1]
        self.check_right(([0, 0], [row, row]))

    def test_more_than_eight_places_are_not_refused(self):
        self.check_right(web_of(9))
        self.check_right(web_of(16))


class OneWrong(LookAtWeb):
    def test_hue_below_nought(self):
        for size in (1, 3, 8, 9):
            for place in range(size):
                for hue in (-1, -SIXTY):
                    web = changed(web_of(size), lambda hues, rows: hues.__setitem__(place, hue))
                    self.check_wrong(web, place)

    def test_no_row(self):
        for size in (1, 3, 8, 9):
            for place in range(size):
                web = web_of(size)
                self.check_wrong((web[0], web[1][:place]), place)

    def test_row_too_long(self):
        for size in (1, 3, 8, 9):
            for place in range(size):
                self.check_wrong(changed(web_of(size), lambda hues, rows: rows[place].append(0)), place)

    def test_row_too_short(self):
        for size in (1, 3, 8, 9):
            for place in range(size):
                self.check_wrong(changed(web_of(size), lambda hues, rows: rows[place].pop()), place)
                self.check_wrong(changed(web_of(size), lambda hues, rows: rows[place].clear()), place)

    def test_weight_that_is_another_one_turned_round(self):
        for size in (2, 3, 8, 9):
            for u in range(size):
                for v in range(size):
                    if u != v:
                        web = changed(web_of(size), lambda hues, rows: rows[u].__setitem__(v, 99))
                        self.check_wrong(web, min(u, v))

    def test_weights_that_differ_in_the_last_figure_or_the_sign(self):
        self.check_wrong(([0, 0], [[0, SIXTY], [SIXTY - 1, 0]]), 0)
        self.check_wrong(([0, 0], [[0, 1], [-1, 0]]), 0)

    def test_more_rows_than_hues(self):
        for size in range(0, 9):
            for row in ([], [0] * size, [0] * (size + 1)):
                self.check_wrong(changed(web_of(size), lambda hues, rows: rows.append(row)), size)
        self.check_wrong(([], [[], [], []]), 0)
        self.check_wrong(([0], [[0], [0], [0]]), 1)


class SeveralWrongs(LookAtWeb):
    def test_the_least_place_is_told(self):
        self.check_wrong(([0, -1, -1], [[0, 0, 0], [0, 0, 0], [0, 0, 0]]), 1)
        self.check_wrong(([0, 0, -1], [[0, 0, 0], [0, 0], [0, 0, 0]]), 1)
        self.check_wrong(([0, -1, 0], [[0, 0, 0], [0, 0, 0], [0, 0]]), 1)
        self.check_wrong(([0, -1], [[0, 1], [2, 0]]), 0)
        self.check_wrong(([0, 0, 0], [[0, 0, 0], [0, 0, 1], [0, 2, 0]]), 1)
        self.check_wrong(([-1, 0], []), 0)

    def test_turned_round_is_not_held_against_a_wrong_row(self):
        self.check_wrong(([0, 0], [[0, 1], [2]]), 1)
        self.check_wrong(([0, 0], [[0, 1], [2, 0, 0]]), 1)
        self.check_wrong(([0, 0], [[0, 1]]), 1)
        self.check_wrong(([0, 0, 0], [[0, 5, 6], [0], [7, 8]]), 1)
        self.check_wrong(([0, 0, 0], [[0, 5, 6], [0], [7, 8, 9]]), 0)

    def test_turned_round_is_held_against_a_wrong_hue(self):
        self.check_wrong(([0, 0, -1], [[0, 0, 1], [0, 0, 0], [2, 0, 0]]), 0)

    def test_more_rows_than_hues_is_told_last(self):
        self.check_wrong(([0, -1], [[0, 0], [0, 0], [0, 0]]), 1)
        self.check_wrong(([0, 0], [[0, 0], [0], [0, 0]]), 1)
        self.check_wrong(([0, 0], [[0, 1], [2, 0], [0, 0]]), 0)

    def test_a_row_too_many_is_held_against_no_weight(self):
        self.check_wrong(([0, 0], [[0, 1], [1, 0], [5, 6]]), 2)

    def test_all_small_ones(self):
        rows_there = [list(row) for length in range(4) for row in product((0, 1), repeat=length)]
        for size in range(3):
            for hues in product((-1, 0), repeat=size):
                for count in range(4):
                    for rows in product(rows_there, repeat=count):
                        place = wrong_place(list(hues), list(rows))
                        if place is None:
                            self.check_right((list(hues), list(rows)))
                        else:
                            self.check_wrong((list(hues), list(rows)), place)

    def test_some_of_three_places(self):
        rows_there = ([0, 0, 0], [0, 1, 0], [1, 0, 0], [0, 0, 1], [0, 0], [0, 0, 0, 0])
        for hues in product((-1, 0), repeat=3):
            for count in range(5):
                for rows in product(rows_there[:6 if count < 4 else 3], repeat=count):
                    place = wrong_place(list(hues), list(rows))
                    if place is None:
                        self.check_right((list(hues), list(rows)))
                    else:
                        self.check_wrong((list(hues), list(rows)), place)


class Renamed(unittest.TestCase):
    def check_refused(self, web, order):
        with self.assertRaises(NoOrder):
            web_renamed(web, order)

    def test_written_out(self):
        self.assertEqual(web_renamed(([5, 6, 7], [[0, 1, 2], [1, 3, 4], [2, 4, 8]]), [2, 0, 1]),
                         ([7, 5, 6], [[8, 2, 4], [2, 0, 1], [4, 1, 3]]))

    def test_every_order_of_small_webs(self):
        for web in [web_of(size) for size in range(5)] + [ONE_PLACE, TWO_PLACES, FOUR_PLACES]:
            places = range(len(web[0]))
            for order in permutations(places):
                told = web_renamed(web, list(order))
                self.assertIsInstance(told, tuple)
                self.assertIsNone(look_at_web(told))
                self.assertEqual(told[0], [web[0][place] for place in order])
                self.assertEqual(told[1], [[web[1][u][v] for v in order] for u in order])

    def test_the_order_as_it_stands_and_back_again(self):
        for order in permutations(range(4)):
            back = [order.index(place) for place in range(4)]
            self.assertEqual(web_renamed(web_renamed(FOUR_PLACES, list(order)), back), FOUR_PLACES)
        self.assertEqual(web_renamed(FOUR_PLACES, [0, 1, 2, 3]), FOUR_PLACES)

    def test_eight_places_and_more(self):
        for size in (8, 9):
            web = web_of(size)
            order = list(range(size))[::-1]
            told = web_renamed(web, order)
            self.assertEqual(told, (web[0][::-1], [row[::-1] for row in web[1][::-1]]))

    def test_without_places(self):
        self.assertEqual(web_renamed(NO_PLACES, []), NO_PLACES)
        for order in ([0], [-1], [0, 1]):
            self.check_refused(NO_PLACES, order)

    def test_too_short_and_too_long(self):
        for order in ([], [0], [0, 1, 2], [3, 2, 1], [0, 1, 2, 3, 4], [0, 1, 2, 3, 0], [0, 1, 2, 3, -1]):
            self.check_refused(FOUR_PLACES, order)

    def test_a_place_twice(self):
        for order in ([0, 0, 1, 2], [3, 3, 3, 3], [0, 1, 2, 2], [1, 1, 2, 3]):
            self.check_refused(FOUR_PLACES, order)

    def test_numbers_that_are_no_place(self):
        for order in ([0, 1, 2, 4], [1, 2, 3, 4], [0, 1, 2, -1], [-1, -2, -3, -4], [SIXTY, 1, 2, 3], [-SIXTY, 0, 1, 2]):
            self.check_refused(FOUR_PLACES, order)

    def test_all_small_lists(self):
        web = web_of(3)
        for length in range(5):
            for order in product(range(-3, 4), repeat=length):
                if sorted(order) != [0, 1, 2]:
                    self.check_refused(web, list(order))

    def test_own(self):
        check_own(self, web_renamed, [copy.deepcopy(FOUR_PLACES), [2, 0, 3, 1]])
        check_own(self, web_renamed, [copy.deepcopy(FOUR_PLACES), [0, 1, 2, 3]])
        check_own(self, web_renamed, [([], []), []])

    def test_a_refusal_changes_nothing(self):
        web, order = copy.deepcopy(FOUR_PLACES), [3, 2, 2, 0]
        self.check_refused(web, order)
        self.assertEqual((web, order), (FOUR_PLACES, [3, 2, 2, 0]))


class SideBySide(unittest.TestCase):
    def test_written_out(self):
        self.assertEqual(side_by_side(TWO_PLACES, ONE_PLACE), ([0, 1, 7], [[4, 5, 0], [5, 6, 0], [0, 0, -3]]))
        self.assertEqual(side_by_side(ONE_PLACE, TWO_PLACES), ([7, 0, 1], [[-3, 0, 0], [0, 4, 5], [0, 5, 6]]))

    def test_place_by_place(self):
        for web in [web_of(size) for size in range(9)]:
            for other in [NO_PLACES, ONE_PLACE, FOUR_PLACES, web_of(8)]:
                told = side_by_side(web, other)
                ahead, behind = len(web[0]), len(other[0])
                self.assertIsInstance(told, tuple)
                self.assertIsNone(look_at_web(told))
                self.assertEqual(len(told[0]), ahead + behind)
                for u in range(ahead + behind):
                    hue = web[0][u] if u < ahead else other[0][u - ahead]
                    self.assertEqual(told[0][u], hue)
                    for v in range(ahead + behind):
                        weight = 0
                        if u < ahead and v < ahead:
                            weight = web[1][u][v]
                        if u >= ahead and v >= ahead:
                            weight = other[1][u - ahead][v - ahead]
                        self.assertEqual(told[1][u][v], weight)

    def test_with_a_web_without_places(self):
        self.assertEqual(side_by_side(NO_PLACES, FOUR_PLACES), FOUR_PLACES)
        self.assertEqual(side_by_side(FOUR_PLACES, NO_PLACES), FOUR_PLACES)
        self.assertEqual(side_by_side(NO_PLACES, NO_PLACES), NO_PLACES)

    def test_sixty_figures(self):
        web = ([SIXTY], [[-SIXTY]])
        self.assertEqual(side_by_side(web, web), ([SIXTY, SIXTY], [[-SIXTY, 0], [0, -SIXTY]]))

    def test_own(self):
        for web in (NO_PLACES, ONE_PLACE, FOUR_PLACES):
            for other in (NO_PLACES, ONE_PLACE, FOUR_PLACES):
                check_own(self, side_by_side, [copy.deepcopy(web), copy.deepcopy(other)])

    def test_own_where_both_are_one_web(self):
        web = copy.deepcopy(FOUR_PLACES)
        told = side_by_side(web, web)
        self.assertEqual(web, FOUR_PLACES)
        self.assertEqual(len({id(one) for one in lists_in(told)}), 10)


class LookingChangesNothing(unittest.TestCase):
    def test_a_right_web_stays(self):
        check_own(self, look_at_web, [copy.deepcopy(FOUR_PLACES)])

    def test_a_wrong_web_stays_and_is_refused_again(self):
        web = ([0, -1], [[0, 1], [1, 0, 0], []])
        before = copy.deepcopy(web)
        for turn in range(2):
            with self.assertRaises(NoWeb) as taken:
                look_at_web(web)
            self.assertEqual(taken.exception.place, 1)
            self.assertEqual(web, before)

    def test_a_web_that_is_mended_is_no_more_refused(self):
        web = ([0, 0], [[0, 1], [2, 0]])
        with self.assertRaises(NoWeb):
            look_at_web(web)
        web[1][1][0] = 1
        self.assertIsNone(look_at_web(web))
        web[0][1] = -1
        with self.assertRaises(NoWeb):
            look_at_web(web)
