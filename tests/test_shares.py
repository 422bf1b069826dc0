import copy
import unittest
from fractions import Fraction
from itertools import product
from random import Random

from evenkin.partings import coarsest_together, is_even, part_alike
from evenkin.shares import goes_through, join_tables, lots_of, table_of, turned_over
from evenkin.webs import side_by_side, web_renamed
from helpers import (BARE, HALF, LARGE, LATE_PAIRS, NO_PLACES, ORDER, SIXTY, WRONG_TABLES, all_webs, as_told,
                     check_own, check_table, is_whole, mixed_tables, ring, scaled, some_webs, table_by_order,
                     table_with, turn_by, web_of, web_of_own_weights, with_hue, with_weight)

STAR = ([0] * 4, [[0, 1, 1, 1], [1, 0, 0, 0], [1, 0, 0, 0], [1, 0, 0, 0]])
ALIKE = ((NO_PLACES, NO_PLACES), (BARE, BARE), (ring(6), ring(3, 3)), (ring(8), ring(3, 5)), (ring(8), ring(4, 4)),
         (STAR, web_renamed(STAR, [2, 3, 0, 1])), (web_of(8), web_renamed(web_of(8), ORDER)), (LARGE, LARGE),
         (scaled(ring(7), SIXTY), scaled(ring(3, 4), SIXTY)))


def goes_there(web, other, table):
    """Point 10 word by word, with Python's own fractions."""
    (hues, rows), (hues_there, rows_there) = web, other
    places = range(len(hues))
    if len(hues) != len(hues_there) or [len(row) for row in table] != [len(hues_there) for u in places]:
        return False
    shares = [[Fraction(*f) for f in row] for row in table]
    for u in places:
        if sum(shares[u]) != 1 or sum(shares[v][u] for v in places) != 1:
            return False
        for w in places:
            if shares[u][w] < 0 or shares[u][w] > 0 and hues[u] != hues_there[w]:
                return False
            here = sum(rows[u][v] * shares[v][w] for v in places)
            if here != sum(shares[u][x] * rows_there[x][w] for x in places):
                return False
    return True


def joined_there(table, other):
    """Point 11 word by word."""
    return [[as_told(sum((Fraction(*table[u][x]) * Fraction(*other[x][w]) for x in range(len(other))), Fraction(0)))
             for w in range(len(other[0]) if other else 0)] for u in range(len(table))]


def turned_there(table):
    return [list(column) for column in zip(*table)]


def lots_there(table):
    """Point 12 by walking to and fro from each place."""
    size = len(table)
    lots = {}
    for start in [(0, u) for u in range(size)] + [(1, u) for u in range(size)]:
        if start not in lots:
            number = len(set(lots.values()))
            waiting = [start]
            while waiting:
                side, place = waiting.pop()
                if (side, place) not in lots:
                    lots[side, place] = number
                    shares = table[place] if side == 0 else [row[place] for row in table]
                    waiting += [(1 - side, k) for k in range(size) if shares[k][0] > 0]
    return ([lots[0, u] for u in range(size)], [lots[1, u] for u in range(size)])


def any_table(chance, height, width, fractions):
    return [[chance.choice(fractions) for v in range(width)] for u in range(height)]


def mixed_turns(size, parts):
    """The table of a ring onto itself by several turns, each with its share."""
    return mixed_tables([(f, table_by_order(turn_by(size, steps))) for f, steps in parts])


class GoesThrough(unittest.TestCase):
    def check(self, web, other, table, right):
        self.assertIs(goes_there(web, other, table), right)
        self.assertIs(goes_through(web, other, table), right)

    def test_tables_of_renamings(self):
        for web in [web_of(8), ring(8), ring(3, 5), LATE_PAIRS[0][0]] + list(some_webs(8, (0, 1), (-1, 0, 1), 10, 51)):
            for order in (list(range(8)), list(range(8))[::-1], ORDER):
                self.check(web, web_renamed(web, order), table_by_order(order), True)
        for order in ([1, 0], [0, 1]):
            self.check(LARGE, web_renamed(LARGE, order), table_by_order(order), True)

    def test_a_renaming_the_other_way_round(self):
        order = [1, 2, 0]
        renamed = web_renamed(web_of(3), order)
        self.check(web_of(3), renamed, table_by_order(order), True)
        self.check(renamed, web_of(3), table_by_order(order), False)
        self.check(renamed, web_of(3), turned_there(table_by_order(order)), True)
        self.check(web_of(3), renamed, turned_there(table_by_order(order)), False)

    def test_the_renaming_of_another_order(self):
        for order in ([0, 2, 1], [2, 0, 1], [0, 1, 2]):
            self.check(web_of(3), web_renamed(web_of(3), [1, 2, 0]), table_by_order(order), False)

    def test_tables_mixed_by_shares(self):
        for parts in ([(Fraction(1, 2), 0), (Fraction(1, 2), 1)], [(Fraction(1, 3), 2), (Fraction(2, 3), 5)],
                      [(Fraction(1, SIXTY), 0), (Fraction(SIXTY - 1, SIXTY), 3)],
                      [(Fraction(1, 8), 1), (Fraction(1, 4), 2), (Fraction(5, 8), 6)]):
            self.check(ring(8), ring(8), mixed_turns(8, parts), True)
            self.check(scaled(ring(8), SIXTY), scaled(ring(8), SIXTY), mixed_turns(8, parts), True)
            self.check(scaled(ring(8), SIXTY), scaled(ring(8), SIXTY - 1), mixed_turns(8, parts), False)

    def test_mixed_by_shares_that_do_not_come_to_1(self):
        self.check(ring(8), ring(8), mixed_turns(8, [(Fraction(1, 2), 0), (Fraction(1, 3), 1)]), False)
        self.check(ring(8), ring(8), mixed_turns(8, [(Fraction(1, 2), 0), (Fraction(2, 3), 1)]), False)
        self.check(ring(8), ring(8), mixed_turns(8, [(Fraction(3, 2), 0), (Fraction(-1, 2), 1)]), False)

    def test_even_shares_of_lots(self):
        self.check(ring(6), ring(3, 3), [[(1, 6)] * 6 for u in range(6)], True)
        self.check(ring(8), ring(3, 5), [[(1, 8)] * 8 for u in range(8)], True)
        self.check(ring(8), ring(1, 7), [[(1, 8)] * 8 for u in range(8)], False)
        thirds = [[(1, 1), (0, 1), (0, 1), (0, 1)]] + [[(0, 1)] + [(1, 3)] * 3 for u in range(3)]
        self.check(STAR, STAR, thirds, True)
        self.check(STAR, STAR, [[(1, 4)] * 4 for u in range(4)], False)

    def test_each_wrong_alone(self):
        for wrong, (web, other, table) in WRONG_TABLES.items():
            with self.subTest(wrong=wrong):
                self.check(web, other, table, False)

    def test_webs_without_places(self):
        self.check(NO_PLACES, NO_PLACES, [], True)
        for table in ([[]], [[], []], [[(1, 1)]], [[(0, 1)]]):
            self.check(NO_PLACES, NO_PLACES, table, False)
        for table in ([], [[]], [[(1, 1)]]):
            self.check(NO_PLACES, ([0], [[0]]), table, False)
            self.check(([0], [[0]]), NO_PLACES, table, False)

    def test_one_place(self):
        for f, right in (((1, 1), True), ((0, 1), False), ((2, 1), False), ((1, 2), False), ((-1, 1), False)):
            self.check(([3], [[7]]), ([3], [[7]]), [[f]], right)
        self.check(([3], [[7]]), ([4], [[7]]), [[(1, 1)]], False)
        self.check(([3], [[7]]), ([3], [[8]]), [[(1, 1)]], False)
        for table in ([], [[]], [[(1, 1), (0, 1)]], [[(1, 1)], [(0, 1)]], [[(1, 1)], []]):
            self.check(([3], [[7]]), ([3], [[7]]), table, False)

    def test_all_tables_of_two_places(self):
        fractions = ((-1, 2), (0, 1), HALF, (1, 1), (3, 2))
        webs = list(all_webs(2, (0,), (0, 1))) + [([0, 1], [[0, 1], [1, 0]]), ([1, 0], [[0, 2], [2, 0]])]
        found = []
        for shares in product(fractions, repeat=4):
            table = [list(shares[:2]), list(shares[2:])]
            for web in webs:
                for other in webs:
                    right = goes_there(web, other, table)
                    found.append(right)
                    self.assertIs(goes_through(web, other, table), right)
        self.assertGreater(found.count(True), 20)

    def test_a_right_table_with_one_share_changed(self):
        for web, other in ALIKE[1:]:
            table = table_of(web, other)
            for u in range(len(table)):
                for v in range(len(table)):
                    for f in ((-1, 1), (3, 7), (2, 1), (SIXTY - 1, SIXTY)):
                        self.check(web, other, table_with(table, u, v, f), False)

    def test_a_right_table_with_one_hue_or_weight_changed(self):
        for web, other in ALIKE[2:7]:
            table = table_of(web, other)
            for u in range(len(table)):
                self.check(with_hue(web, u, 77), other, table, False)
                self.check(web, with_hue(other, u, 77), table, False)
                for v in range(u + 1):
                    self.check(with_weight(web, u, v, web[1][u][v] + 1), other, table, False)
                    self.check(web, with_weight(other, u, v, other[1][u][v] - 1), table, False)

    def test_a_table_of_lists_of_other_lengths(self):
        table = table_by_order([0, 1, 2])
        web = web_of(3)
        self.check(web, web, table, True)
        for u in range(3):
            self.check(web, web, table[:u] + table[u + 1:], False)
            self.check(web, web, table[:u] + [table[u]] + table[u:], False)
            for row in (table[u][:2], table[u][1:], table[u] + [(0, 1)], [(0, 1)] + table[u], []):
                self.check(web, web, table[:u] + [row] + table[u + 1:], False)
        self.check(web, web, [[(1, 1)] * 300 for u in range(300)], False)

    def test_fractions_of_many_figures(self):
        large = 10 ** 700 + 7
        for top in (1, large // 2, large - 1):
            f, g = Fraction(top, large), Fraction(large - top, large)
            self.check(ring(8), ring(8), mixed_turns(8, [(f, 0), (g, 4)]), True)
            self.check(ring(8), ring(8), mixed_turns(8, [(f, 0), (g - Fraction(1, large ** 2), 4)]), False)
        self.check(ring(8), ring(8), table_with(mixed_turns(8, [(1, 0)]), 0, 0, (large, large - 1)), False)

    def test_many_unlike_bottoms(self):
        chance = Random(52)
        parts = [Fraction(1, chance.randrange(10 ** 40, 10 ** 41)) for steps in range(7)]
        parts.append(1 - sum(parts))
        self.check(ring(8), ring(8), mixed_turns(8, list(zip(parts, range(8)))), True)

    def test_nine_places(self):
        self.check(ring(9), ring(4, 5), [[(1, 9)] * 9 for u in range(9)], True)
        self.check(ring(9), ring(1, 8), [[(1, 9)] * 9 for u in range(9)], False)


class TableOf(unittest.TestCase):
    def test_share_by_share(self):
        for web, other in ALIKE:
            lots, other_lots = coarsest_together(web, other)
            right = [[(1, lots.count(lot)) if lot == there else (0, 1) for there in other_lots] for lot in lots]
            check_table(self, table_of(web, other), right)
            self.assertIs(goes_through(web, other, right), True)

    def test_written_out(self):
        check_table(self, table_of(NO_PLACES, NO_PLACES), [])
        check_table(self, table_of(([4], [[9]]), ([4], [[9]])), [[(1, 1)]])
        check_table(self, table_of(BARE, BARE), [[HALF, HALF], [HALF, HALF]])
        check_table(self, table_of(LARGE, web_renamed(LARGE, [1, 0])), [[(0, 1), (1, 1)], [(1, 1), (0, 1)]])
        check_table(self, table_of(web_of(8), web_renamed(web_of(8), ORDER)), table_by_order(ORDER))
        right = [[(0, 1), (0, 1), (1, 1), (0, 1)]] + [[(1, 3), (1, 3), (0, 1), (1, 3)] for u in range(3)]
        check_table(self, table_of(STAR, web_renamed(STAR, [2, 3, 0, 1])), right)

    def test_webs_that_part_alike_go_through(self):
        count = 0
        webs = list(some_webs(3, (0, 1), (0, 1), 40, 53)) + list(some_webs(4, (0,), (0, 1), 40, 54))
        for web in webs:
            for other in webs:
                if part_alike(web, other):
                    count += 1
                    table = table_of(web, other)
                    self.assertIs(goes_through(web, other, table), True)
                    self.assertIs(goes_there(web, other, table), True)
        self.assertGreater(count, len(webs))


FRACTIONS = ((0, 1), (1, 1), (-1, 1), HALF, (-5, 6), (9, 4), (SIXTY, 1), (1, SIXTY), (-SIXTY, SIXTY - 1))


class JoinTables(unittest.TestCase):
    def test_written_out(self):
        check_table(self, join_tables([], []), [])
        check_table(self, join_tables([[HALF]], [[(2, 3)]]), [[(1, 3)]])
        check_table(self, join_tables([[(1, 2), (1, 3)]], [[(1, 1), (2, 1)], [(3, 2), (0, 1)]]), [[(1, 1), (1, 1)]])
        check_table(self, join_tables([[(1, 2)], [(1, 3)]], [[(3, 1), (2, 1)]]), [[(3, 2), (1, 1)], [(1, 1), (2, 3)]])

    def test_against_point_11(self):
        chance = Random(55)
        for turn in range(60):
            height, between, width = [chance.randint(1, 8) for side in range(3)]
            table = any_table(chance, height, between, FRACTIONS)
            other = any_table(chance, between, width, FRACTIONS)
            check_table(self, join_tables(table, other), joined_there(table, other))

    def test_first_the_one_then_the_other(self):
        first, second = [1, 2, 0, 3], [0, 2, 3, 1]
        web = web_of(4)
        renamed = web_renamed(web_renamed(web, first), second)
        told = join_tables(table_by_order(first), table_by_order(second))
        check_table(self, told, table_by_order([first[place] for place in second]))
        self.assertIs(goes_through(web, renamed, told), True)
        backwards = join_tables(table_by_order(second), table_by_order(first))
        self.assertIs(goes_through(web, renamed, backwards), False)

    def test_joined_ones_go_through(self):
        ahead = [(ring(8), ring(3, 5), table_of(ring(8), ring(3, 5))),
                 (ring(8), ring(8), mixed_turns(8, [(Fraction(1, 3), 1), (Fraction(2, 3), 4)])),
                 (web_renamed(ring(8), ORDER), ring(8), turned_there(table_by_order(ORDER)))]
        behind = [(ring(8), ring(4, 4), table_of(ring(8), ring(4, 4))),
                  (ring(8), web_renamed(ring(8), ORDER), table_by_order(ORDER)),
                  (ring(3, 5), ring(8), table_of(ring(3, 5), ring(8))),
                  (ring(8), ring(8), mixed_turns(8, [(Fraction(1, 5), 0), (Fraction(4, 5), 3)]))]
        count = 0
        for web, between, table in ahead:
            for start, end, other in behind:
                if between == start:
                    count += 1
                    told = join_tables(table, other)
                    check_table(self, told, joined_there(table, other))
                    self.assertIs(goes_through(web, end, told), True)
        self.assertGreater(count, 5)

    def test_a_table_with_even_shares(self):
        even = [[(1, 8)] * 8 for u in range(8)]
        check_table(self, join_tables(even, even), even)
        check_table(self, join_tables(table_by_order(ORDER), even), even)


class TurnedOver(unittest.TestCase):
    def test_written_out(self):
        check_table(self, turned_over([]), [])
        check_table(self, turned_over([[HALF]]), [[HALF]])
        check_table(self, turned_over([[(1, 2), (2, 3)], [(5, 1), (-7, 4)]]), [[(1, 2), (5, 1)], [(2, 3), (-7, 4)]])
        check_table(self, turned_over([[(1, 2), (2, 3), (5, 1)]]), [[(1, 2)], [(2, 3)], [(5, 1)]])

    def test_rows_for_columns(self):
        chance = Random(56)
        for turn in range(40):
            table = any_table(chance, chance.randint(1, 8), chance.randint(1, 8), FRACTIONS)
            check_table(self, turned_over(table), turned_there(table))
            check_table(self, turned_over(turned_over(table)), table)

    def test_turned_ones_go_through_the_other_way_round(self):
        for web, other in ALIKE:
            self.assertIs(goes_through(other, web, turned_over(table_of(web, other))), True)
        for web in (web_of(8), ring(8)):
            told = turned_over(table_by_order(ORDER))
            self.assertIs(goes_through(web_renamed(web, ORDER), web, told), True)
        turned = turned_over(mixed_turns(8, [(Fraction(1, 3), 1), (Fraction(2, 3), 2)]))
        check_table(self, turned, mixed_turns(8, [(Fraction(1, 3), 7), (Fraction(2, 3), 6)]))
        self.assertIs(goes_through(ring(8), ring(8), turned), True)


class LotsOf(unittest.TestCase):
    def check(self, table, right):
        told = lots_of(table)
        self.assertIs(type(told), tuple)
        self.assertEqual([type(lots) for lots in told], [list, list])
        self.assertTrue(all(is_whole(lot) for lots in told for lot in lots))
        self.assertEqual(told, right)
        self.assertEqual(sorted(told[0]), sorted(told[1]))

    def test_written_out(self):
        self.check([], ([], []))
        self.check([[(1, 1)]], ([0], [0]))
        self.check([[(1, 1), (0, 1)], [(0, 1), (1, 1)]], ([0, 1], [0, 1]))
        self.check([[(0, 1), (1, 1)], [(1, 1), (0, 1)]], ([0, 1], [1, 0]))
        self.check([[HALF, HALF], [HALF, HALF]], ([0, 0], [0, 0]))
        self.check([[(1, SIXTY), (SIXTY - 1, SIXTY)], [(SIXTY - 1, SIXTY), (1, SIXTY)]], ([0, 0], [0, 0]))

    def test_a_renamings_table(self):
        for order in (list(range(8)), list(range(8))[::-1], ORDER):
            self.check(table_by_order(order), (list(range(8)), order))

    def test_even_shares_of_lots(self):
        for web, other in ALIKE:
            self.check(table_of(web, other), coarsest_together(web, other))

    def test_to_and_fro(self):
        half = Fraction(1, 2)
        self.check(mixed_turns(8, [(half, 0), (half, 1)]), ([0] * 8, [0] * 8))
        self.check(mixed_turns(8, [(half, 0), (half, 2)]), ([0, 1] * 4, [0, 1] * 4))
        self.check(mixed_turns(8, [(half, 0), (half, 4)]), ([0, 1, 2, 3] * 2, [0, 1, 2, 3] * 2))
        self.check(mixed_turns(8, [(half, 1), (half, 5)]), ([0, 1, 2, 3] * 2, [1, 2, 3, 0] * 2))
        self.check(mixed_turns(7, [(half, 0), (half, 3)]), ([0] * 7, [0] * 7))

    def test_lots_that_meet_late(self):
        first = [[HALF, HALF, (0, 1), (0, 1)], [(0, 1), (0, 1), HALF, HALF],
                 [HALF, (0, 1), HALF, (0, 1)], [(0, 1), HALF, (0, 1), HALF]]
        self.check(first, ([0] * 4, [0] * 4))
        second = [[HALF, (0, 1), HALF, (0, 1)], [(0, 1), HALF, (0, 1), HALF],
                  [(0, 1), HALF, (0, 1), HALF], [HALF, (0, 1), HALF, (0, 1)]]
        self.check(second, ([0, 1, 1, 0], [0, 1, 0, 1]))

    def test_against_walks_to_and_fro(self):
        chance = Random(57)
        for turn in range(150):
            size = chance.randint(1, 8)
            orders = [chance.sample(range(size), size) for part in range(chance.randint(1, 3))]
            if chance.random() < 0.7:
                orders[1:] = [orders[0][:-2] + orders[0][-2:][::-1] for order in orders[1:]]
            table = mixed_tables([(Fraction(1, len(orders)), table_by_order(order)) for order in orders])
            self.check(table, lots_there(table))

    def test_they_are_even_together(self):
        half = Fraction(1, 2)
        for size, turn, other_turn in ((8, 0, 2), (6, 1, 4), (8, 3, 7)):
            table = mixed_turns(size, [(half, turn), (half, other_turn)])
            self.assertIs(goes_through(ring(size), ring(size), table), True)
            lots = lots_of(table)
            self.assertIs(is_even(side_by_side(ring(size), ring(size)), lots[0] + lots[1]), True)

    def test_tables_joined_and_turned(self):
        half = Fraction(1, 2)
        table = mixed_turns(8, [(half, 0), (half, 4)])
        joined = join_tables(table, table_by_order(ORDER))
        lots = [0, 1, 2, 3] * 2
        self.check(joined, (lots, [lots[place] for place in ORDER]))
        turned = turned_over(joined)
        self.check(turned, lots_there(turned))
        self.check(turned, ([0, 1, 2, 0, 3, 3, 1, 2], [2, 1, 3, 0, 2, 1, 3, 0]))
        self.check(join_tables(turned, joined), ([0, 1, 2, 0, 3, 3, 1, 2], [0, 1, 2, 0, 3, 3, 1, 2]))
        there_and_back = join_tables(table_of(ring(8), ring(3, 5)), table_of(ring(3, 5), ring(8)))
        self.check(there_and_back, ([0] * 8, [0] * 8))


class WhatIsHandedInAndTold(unittest.TestCase):
    def test_own(self):
        for web, other in ALIKE:
            table = table_of(web, other)
            check_own(self, goes_through, [copy.deepcopy(web), copy.deepcopy(other), copy.deepcopy(table)])
            check_own(self, table_of, [copy.deepcopy(web), copy.deepcopy(other)])
            check_own(self, turned_over, [copy.deepcopy(table)])
            check_own(self, lots_of, [copy.deepcopy(table)])
            check_own(self, join_tables, [copy.deepcopy(table), turned_there(table)])
        for web, other, table in WRONG_TABLES.values():
            check_own(self, goes_through, [copy.deepcopy(web), copy.deepcopy(other), copy.deepcopy(table)])

    def test_one_table_or_one_row_handed_in_twice(self):
        table = [[HALF, HALF]] * 2
        for told in (join_tables(table, table), turned_over(table)):
            check_table(self, told, [[HALF, HALF], [HALF, HALF]])
            told[0].append("spoilt")
            self.assertEqual(told[1], [HALF, HALF])
        self.assertEqual(table, [[HALF, HALF]] * 2)
        self.assertIs(goes_through(BARE, BARE, table), True)
        self.assertEqual(lots_of(table), ([0, 0], [0, 0]))

    def test_one_web_handed_in_twice(self):
        web = ring(5)
        check_table(self, table_of(web, web), [[(1, 5)] * 5 for u in range(5)])
        self.assertIs(goes_through(web, web, table_of(web, web)), True)

    def test_a_table_that_is_changed_is_looked_at_anew(self):
        table = table_of(ring(6), ring(3, 3))
        self.assertIs(goes_through(ring(6), ring(3, 3), table), True)
        table[0][0] = (0, 1)
        self.assertIs(goes_through(ring(6), ring(3, 3), table), False)
        web = web_of_own_weights([1, 1])
        self.assertIs(goes_through(web, web_of_own_weights([1, 1]), [[HALF, HALF], [HALF, HALF]]), True)
        web[1][0][0] = 2
        self.assertIs(goes_through(web, web_of_own_weights([1, 1]), [[HALF, HALF], [HALF, HALF]]), False)
