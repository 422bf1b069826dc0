import copy
import unittest
from random import Random

from evenkin.kinds import are_kin, coarsest_kinds, is_kin, kinds_together, same_kin
from evenkin.partings import coarsest_parting, part_alike
from evenkin.webs import web_renamed
from helpers import (BARE, BARE_SIX, BARE_THREE, CUBE, LARGE, LATE_PAIRS, LIKE_POWERS, NO_PLACES, ONE_OF_THREE,
                     ONE_PLACE, ORDER, PATH, SIXTY, TREE_ALIKE, TWO_HUES, UNLIKE_PAIRS, WRONG_KINDS, all_partings,
                     all_webs, check_own, coarsest_by_splitting, each_its_own, in_tables, is_whole, kin_there,
                     kin_wrongs, kinds_read, numbered_anew, renumbered, ring, some_webs, web_of, web_of_own_weights,
                     with_hue, with_weight)

WEBS = (NO_PLACES, ONE_PLACE, ([7], [[-3]]), BARE, TWO_HUES, PATH, LARGE, ONE_OF_THREE, BARE_SIX, ring(8), ring(3, 5),
        CUBE, web_of(8), LATE_PAIRS[0][0], with_hue(ring(8), 3, 1), with_weight(ring(8), 2, 5, -1), LIKE_POWERS[0],
        ([0] * 8, [[SIXTY if (u - v) % 8 in (1, 7) else -SIXTY for v in range(8)] for u in range(8)]))


def as_told_by(orders, webs):
    """The coarsest tables of the webs renamed, from those of the webs."""
    tables = coarsest_by_splitting(webs)
    picked = [[[table[u][v] for v in order] for u in order] for table, order in zip(tables, orders)]
    return in_tables(numbered_anew(kinds_read(picked)), [len(web[0]) for web in webs])


class Kinds(unittest.TestCase):
    def check_tables(self, tables, webs):
        """Told tables are tables of kinds by points 18 and 19, and kin."""
        self.assertEqual(len(tables), len(webs))
        for table, web in zip(tables, webs):
            self.assertIs(type(table), list)
            self.assertEqual(len(table), len(web[0]))
            for row in table:
                self.assertIs(type(row), list)
                self.assertEqual(len(row), len(web[0]))
                self.assertTrue(all(is_whole(kind) for kind in row))
        self.assertEqual(kinds_read(tables), numbered_anew(kinds_read(tables)))
        self.assertEqual(list(kin_wrongs(webs, tables)), [])

    def check_coarsest(self, webs):
        """Of all tables of kinds, the kin ones are told as such, and have nothing together that the coarsest part."""
        sizes = [len(web[0]) for web in webs]
        coarsest = [coarsest_kinds(webs[0])] if len(webs) == 1 else list(kinds_together(*webs))
        self.check_tables(coarsest, webs)
        flat, found = kinds_read(coarsest), 0
        for kinds in all_partings(sum(size * size for size in sizes)):
            tables = in_tables(kinds, sizes)
            kin = kin_there(webs, tables)
            self.assertIs(is_kin(webs[0], tables[0]) if len(webs) == 1 else are_kin(*webs, *tables), kin)
            if kin:
                found += 1
                self.assertEqual(len(set(zip(kinds, flat))), len(set(kinds)))
        self.assertGreater(found, 0)


class IsKin(Kinds):
    def test_kin_ones(self):
        for web in WEBS:
            self.assertIs(is_kin(web, coarsest_kinds(web)), True)
            self.assertIs(is_kin(web, each_its_own(web)), True)

    def test_between_the_coarsest_and_the_finest(self):
        self.assertIs(is_kin(BARE_THREE, [[0, 1, 2], [2, 0, 1], [1, 2, 0]]), True)
        self.assertIs(is_kin(BARE_THREE, [[0, 1, 1], [2, 3, 4], [2, 4, 3]]), True)
        self.assertIs(is_kin(ring(3), [[0, 1, 2], [2, 0, 1], [1, 2, 0]]), True)
        for web in (BARE_SIX, ring(6)):
            self.assertIs(is_kin(web, [[(v - u) % 6 for v in range(6)] for u in range(6)]), True)
        steps = [[min((u - v) % 8, (v - u) % 8) for v in range(8)] for u in range(8)]
        self.assertIs(is_kin(ring(8), steps), True)
        self.assertIs(is_kin(([0] * 8, [[0] * 8 for u in range(8)]), steps), True)

    def test_each_wrong(self):
        for name, (web, kinds, wrongs) in WRONG_KINDS.items():
            with self.subTest(wrong=name):
                self.assertEqual(kinds_read([kinds]), numbered_anew(kinds_read([kinds])))
                self.assertEqual(set(kin_wrongs([web], [kinds])), wrongs)
                self.assertIs(is_kin(web, kinds), False)

    def test_tables_right_but_for_the_web(self):
        for web in WEBS[3:]:
            kinds = coarsest_kinds(web)
            last = len(web[0]) - 1
            for other in (with_hue(web, last, 99), with_weight(web, last, last, 99), with_weight(web, 0, last, 99)):
                self.assertIs(is_kin(other, kinds), kin_there([other], [kinds]))
        self.assertIs(is_kin(with_hue(ring(8), 7, 99), coarsest_kinds(ring(8))), False)
        self.assertIs(is_kin(with_weight(ring(8), 7, 7, 99), coarsest_kinds(ring(8))), False)
        self.assertIs(is_kin(with_weight(ring(8), 0, 7, 99), coarsest_kinds(ring(8))), False)

    def test_two_kinds_made_one(self):
        for web in (PATH, LARGE, ring(8), ring(3, 5), CUBE, LATE_PAIRS[0][0], BARE_SIX):
            kinds = coarsest_kinds(web)
            many = len(set(kinds_read([kinds])))
            for kind in range(1, min(many, 12)):
                merged = [[kind - 1 if one == kind else one for one in row] for row in kinds]
                self.assertIs(is_kin(web, in_tables(numbered_anew(kinds_read([merged])), [len(kinds)])[0]), False)

    def test_one_pair_a_kind_of_its_own(self):
        for web in (BARE, BARE_THREE, ring(8), CUBE):
            kinds = coarsest_kinds(web)
            for u, v in ((0, 0), (0, 1), (1, 0)):
                apart = copy.deepcopy(kinds)
                apart[u][v] = 99
                self.assertIs(is_kin(web, in_tables(numbered_anew(kinds_read([apart])), [len(kinds)])[0]), False)

    def test_tables_of_other_lengths(self):
        self.assertIs(is_kin(NO_PLACES, []), True)
        for web, kinds in ((NO_PLACES, [[]]), (ONE_PLACE, []), (ONE_PLACE, [[]]), (ONE_PLACE, [[0, 1]]),
                           (ONE_PLACE, [[0], [1]]), (BARE, [[0, 1], [1]]), (BARE, [[0, 1, 2], [1, 0, 2]]),
                           (BARE, [[0, 1], [1, 0], [2, 3]])):
            self.assertIs(is_kin(web, kinds), False)


class Coarsest(Kinds):
    def test_known_ones(self):
        self.assertEqual(coarsest_kinds(NO_PLACES), [])
        self.assertEqual(coarsest_kinds(ONE_PLACE), [[0]])
        self.assertEqual(coarsest_kinds(([7], [[-SIXTY]])), [[0]])
        self.assertEqual(coarsest_kinds(BARE), [[0, 1], [1, 0]])
        self.assertEqual(coarsest_kinds(TWO_HUES), [[0, 1], [2, 3]])
        self.assertEqual(coarsest_kinds(LARGE), [[0, 1], [2, 3]])
        self.assertEqual(coarsest_kinds(PATH), [[0, 1, 2], [3, 4, 3], [2, 1, 0]])
        self.assertEqual(coarsest_kinds(web_of_own_weights([4, 4, 5])), [[0, 1, 2], [1, 0, 2], [3, 3, 4]])
        self.assertEqual(coarsest_kinds(ring(8)),
                         [[min((u - v) % 8, (v - u) % 8) for v in range(8)] for u in range(8)])
        self.assertEqual(coarsest_kinds(web_of(8)), each_its_own(web_of(8)))

    def test_all_tables_of_all_webs_of_two_places(self):
        for web in [NO_PLACES] + list(all_webs(1, (0, 1), (0, 1))) + list(all_webs(2, (0, 1), (-1, 0, 2))):
            self.check_coarsest([web])

    def test_all_tables_of_some_webs_of_three_places(self):
        for web in (BARE_THREE, PATH):
            self.check_coarsest([web])

    def test_against_splitting(self):
        webs = list(WEBS) + list(some_webs(3, (0, 1), (0, 1), 30, 181)) + list(some_webs(5, (0,), (0, 1), 30, 182))
        webs += list(some_webs(8, (0,), (0, 1), 4, 183)) + list(some_webs(8, (0, 1), (-1, 0, 1), 4, 184))
        for web in webs + [one for pair in TREE_ALIKE for one in pair]:
            self.check_tables([coarsest_kinds(web)], [web])
            self.assertEqual([coarsest_kinds(web)], coarsest_by_splitting([web]))

    def test_webs_renamed(self):
        chance = Random(185)
        for web in WEBS:
            for turn in range(3):
                order = chance.sample(range(len(web[0])), len(web[0]))
                self.assertEqual([coarsest_kinds(web_renamed(web, order))], as_told_by([order], [web]))

    def test_places_of_one_kind_with_themselves_share_a_lot(self):
        for web in WEBS + LATE_PAIRS[1] + LATE_PAIRS[2]:
            kinds, lots = coarsest_kinds(web), coarsest_parting(web)
            own = [kinds[u][u] for u in range(len(lots))]
            self.assertEqual(len(set(zip(own, lots))), len(set(own)))


class AreKin(Kinds):
    def check(self, web, other, kinds, kinds_there, right):
        self.assertIs(are_kin(web, other, kinds, kinds_there), right)
        self.assertIs(are_kin(other, web, kinds_there, kinds), right)

    def test_kin_ones(self):
        for web, other in [(web, web) for web in WEBS] + list(TREE_ALIKE) + list(UNLIKE_PAIRS):
            kinds, kinds_there = kinds_together(web, other)
            self.check(web, other, kinds, kinds_there, True)
            self.check(web, other, each_its_own(web), each_its_own(other, 64), True)
            self.check(web, other, coarsest_kinds(web), each_its_own(other, 64), True)

    def test_numbered_in_whatever_way(self):
        chance = Random(191)
        for web, other in [(web, web_renamed(web, ORDER)) for web in WEBS if len(web[0]) == 8] + list(TREE_ALIKE):
            kinds, kinds_there = kinds_together(web, other)
            many = len(set(kinds_read([kinds, kinds_there])))
            for numbers in (list(range(many, 0, -1)), [-1 - kind for kind in range(many)],
                            [SIXTY - 7 * kind for kind in range(many)], chance.sample(range(-10 ** 9, 10 ** 9), many)):
                self.check(web, other, renumbered(kinds, numbers), renumbered(kinds_there, numbers), True)
                merged = [numbers[0] if number == numbers[1] else number for number in numbers]
                self.check(web, other, renumbered(kinds, merged), renumbered(kinds_there, merged), False)

    def test_kinds_that_the_one_has_and_the_other_has_not(self):
        for web, other in [(web, web) for web in WEBS[1:]] + list(TREE_ALIKE) + list(UNLIKE_PAIRS):
            kinds, kinds_there = coarsest_kinds(web), coarsest_kinds(other)
            apart = [[-1 - kind for kind in row] for row in kinds_there]
            self.check(web, other, kinds, apart, True)
        self.check(BARE, BARE_THREE, [[0, 1], [1, 0]], [[5, 6, 6], [6, 5, 6], [6, 6, 5]], True)
        self.check(BARE, BARE_THREE, [[0, 1], [1, 0]], [[5, 1, 1], [1, 5, 1], [1, 1, 5]], False)
        self.check(BARE, BARE_THREE, [[0, 1], [1, 0]], [[0, 6, 6], [6, 0, 6], [6, 6, 0]], False)

    def test_the_numbers_of_the_one_exchanged(self):
        two = [[0, 1], [1, 0]]
        self.check(BARE, BARE, two, two, True)
        self.check(BARE, BARE, two, [[1, 0], [0, 1]], False)
        three = [[0, 1, 2], [2, 0, 1], [1, 2, 0]]
        self.check(BARE_THREE, BARE_THREE, three, renumbered(three, [0, 2, 1]), True)
        for web, numbers in ((ring(8), [0, 1, 3, 2, 4]), (PATH, [0, 3, 2, 1, 4])):
            self.check(web, web, coarsest_kinds(web), renumbered(coarsest_kinds(web), numbers), False)

    def test_each_wrong_in_both_and_in_the_one(self):
        for name, (web, kinds, wrongs) in WRONG_KINDS.items():
            with self.subTest(wrong=name):
                self.check(web, web, kinds, kinds, False)
                self.check(web, web, kinds, each_its_own(web, 99), False)
                self.check(web, NO_PLACES, kinds, [], False)

    def test_each_wrong_between_the_two_alone(self):
        for web, other, kinds, kinds_there, wrong in (
                (ONE_PLACE, ([0], [[1]]), [[0]], [[0]], {"weights"}),
                (ONE_PLACE, ([1], [[0]]), [[0]], [[0]], {"first hues", "second hues"}),
                (BARE, ([1, 1], BARE[1]), [[0, 1], [1, 0]], [[2, 1], [1, 2]], {"first hues", "second hues", "between"}),
                (BARE, ([0, 0], [[0, 1], [1, 0]]), [[0, 1], [1, 0]], [[0, 1], [1, 0]], {"weights"}),
                (BARE, BARE_THREE, [[0, 1], [1, 0]], [[0, 1, 1], [1, 0, 1], [1, 1, 0]], {"between"}),
                (BARE, BARE, [[0, 1], [1, 0]], [[1, 0], [0, 1]], {"same", "between"}),
                (ONE_PLACE, BARE, [[0]], [[0, 1], [1, 0]], {"between"}),
                (BARE_THREE, BARE_THREE, [[0, 1, 2], [2, 0, 1], [1, 2, 0]], [[0, 1, 1], [1, 0, 1], [1, 1, 0]],
                 {"turned", "between"})):
            self.assertIs(is_kin(web, kinds), True)
            self.assertEqual(set(kin_wrongs([web, other], [kinds, kinds_there])), wrong)
            self.check(web, other, kinds, kinds_there, False)

    def test_all_tables_of_small_webs(self):
        ones = list(all_webs(1, (0, 1), (0, 1)))
        twos = list(all_webs(2, (0,), (0, 1)))
        for web in [NO_PLACES] + ones:
            for other in [NO_PLACES] + ones + twos:
                self.check_coarsest([web, other])
                self.check_coarsest([other, web])

    def test_all_tables_of_two_webs_of_two_places(self):
        edge = ([0, 0], [[0, 1], [1, 0]])
        for web, other in ((BARE, BARE), (BARE, edge), (edge, TWO_HUES), (web_of_own_weights([0, 1]), BARE)):
            self.check_coarsest([web, other])

    def test_tables_of_other_lengths(self):
        self.check(NO_PLACES, NO_PLACES, [], [], True)
        for kinds in ([], [[0, 1]], [[0, 1], [1]], [[0, 1], []], [[0, 1, 2], [1, 0, 2]], [[0, 1], [1, 0], [2, 2]]):
            self.check(BARE, BARE, kinds, [[0, 1], [1, 0]], False)
            self.check(BARE, NO_PLACES, kinds, [], False)
        self.check(BARE, BARE_THREE, [[0, 1, 1], [1, 0, 1], [1, 1, 0]], [[0, 1], [1, 0]], False)


class Together(Kinds):
    def test_known_ones(self):
        self.assertEqual(kinds_together(NO_PLACES, NO_PLACES), ([], []))
        self.assertEqual(kinds_together(ONE_PLACE, NO_PLACES), ([[0]], []))
        self.assertEqual(kinds_together(NO_PLACES, BARE), ([], [[0, 1], [1, 0]]))
        self.assertEqual(kinds_together(ONE_PLACE, ONE_PLACE), ([[0]], [[0]]))
        self.assertEqual(kinds_together(ONE_PLACE, ([0], [[1]])), ([[0]], [[1]]))
        self.assertEqual(kinds_together(ONE_PLACE, BARE), ([[0]], [[1, 2], [2, 1]]))
        self.assertEqual(kinds_together(TWO_HUES, ([1, 0], BARE[1])), ([[0, 1], [2, 3]], [[3, 2], [1, 0]]))
        self.assertEqual(kinds_together(PATH, web_renamed(PATH, [1, 0, 2])),
                         ([[0, 1, 2], [3, 4, 3], [2, 1, 0]], [[4, 3, 3], [1, 0, 2], [1, 2, 0]]))
        self.assertEqual(kinds_together(ring(3), PATH), ([[0, 1, 1], [1, 0, 1], [1, 1, 0]],
                                                         [[2, 3, 4], [5, 6, 5], [4, 3, 2]]))

    def test_a_web_and_itself(self):
        for web in WEBS:
            self.assertEqual(kinds_together(web, web), (coarsest_kinds(web), coarsest_kinds(web)))

    def test_against_splitting(self):
        webs = [NO_PLACES, ONE_PLACE, PATH, LARGE] + list(some_webs(3, (0, 1), (0, 1), 8, 192))
        pairs = [(web, other) for web in webs for other in webs]
        fours = list(some_webs(4, (0,), (0, 1), 14, 193))
        pairs += list(zip(fours, fours[1:]))
        for web, other in pairs + list(TREE_ALIKE) + list(UNLIKE_PAIRS):
            told = kinds_together(web, other)
            self.assertIs(type(told), tuple)
            self.check_tables(told, [web, other])
            self.assertEqual(list(told), coarsest_by_splitting([web, other]))

    def test_webs_renamed(self):
        chance = Random(194)
        for web, other in list(TREE_ALIKE) + [(CUBE, CUBE), (PATH, ring(3)), (NO_PLACES, PATH)]:
            orders = [chance.sample(range(len(one[0])), len(one[0])) for one in (web, other)]
            told = kinds_together(web_renamed(web, orders[0]), web_renamed(other, orders[1]))
            self.assertEqual(list(told), as_told_by(orders, [web, other]))

    def test_each_web_is_as_finely_parted_as_alone(self):
        for web, other in list(TREE_ALIKE) + list(UNLIKE_PAIRS):
            for one, table in zip((web, other), kinds_together(web, other)):
                self.assertEqual(numbered_anew(kinds_read([table])), kinds_read([coarsest_kinds(one)]))


class SameKin(Kinds):
    def check(self, web, other, right):
        self.assertIs(same_kin(web, other), right)
        self.assertIs(same_kin(other, web), right)
        kinds, kinds_there = coarsest_by_splitting([web, other])
        self.assertIs(sorted(kinds_read([kinds])) == sorted(kinds_read([kinds_there])), right)

    def test_webs_alike_by_trees_and_not_by_pairs(self):
        for web, other in TREE_ALIKE:
            self.assertIs(part_alike(web, other), True)
            self.check(web, other, False)

    def test_a_web_and_its_renaming(self):
        chance = Random(195)
        for web in WEBS + LATE_PAIRS[1] + tuple(one for pair in TREE_ALIKE for one in pair):
            order = chance.sample(range(len(web[0])), len(web[0]))
            self.check(web, web_renamed(web, order), True)

    def test_unlike_webs(self):
        for web, other in UNLIKE_PAIRS:
            self.check(web, other, False)

    def test_webs_of_unlike_many_places(self):
        webs = [NO_PLACES, ONE_PLACE, BARE, BARE_THREE, BARE_SIX, ring(8)]
        for place, web in enumerate(webs):
            for other in webs[:place]:
                self.check(web, other, False)

    def test_one_hue_or_one_weight_another_one(self):
        for web in (ONE_PLACE, BARE, PATH, LARGE, ring(8), CUBE, web_of(8)):
            last = len(web[0]) - 1
            self.check(web, with_hue(web, last, 9), False)
            self.check(web, with_weight(web, last, last, 9), False)
            self.check(web, with_weight(web, 0, last, 10 ** 60), False)

    def test_webs_without_places(self):
        self.check(NO_PLACES, NO_PLACES, True)
        for web in WEBS[1:]:
            self.check(NO_PLACES, web, False)

    def test_alike_by_pairs_is_alike_by_trees(self):
        webs = list(all_webs(2, (0, 1), (0, 1))) + list(some_webs(3, (0,), (0, 1), 12, 196)) + [CUBE, ring(8)]
        found = [(same_kin(web, other), part_alike(web, other)) for web in webs for other in webs]
        self.assertEqual(set(found), {(True, True), (False, True), (False, False)})


class WhatIsHandedInAndTold(Kinds):
    def test_own(self):
        for web in WEBS:
            check_own(self, coarsest_kinds, [copy.deepcopy(web)])
            check_own(self, is_kin, [copy.deepcopy(web), coarsest_kinds(web)])
        for web, kinds, wrongs in WRONG_KINDS.values():
            check_own(self, is_kin, [copy.deepcopy(web), copy.deepcopy(kinds)])
            check_own(self, are_kin, [copy.deepcopy(web), copy.deepcopy(web), copy.deepcopy(kinds), each_its_own(web)])
        for web, other in [(web, copy.deepcopy(web)) for web in WEBS] + list(TREE_ALIKE) + list(UNLIKE_PAIRS):
            for ask in (kinds_together, same_kin):
                check_own(self, ask, [copy.deepcopy(web), copy.deepcopy(other)])
            check_own(self, are_kin, [copy.deepcopy(web), copy.deepcopy(other)] + list(kinds_together(web, other)))

    def test_one_web_and_one_table_handed_in_twice(self):
        for web in WEBS:
            kinds = coarsest_kinds(web)
            self.assertIs(are_kin(web, web, kinds, kinds), True)
            told = kinds_together(web, web)
            self.assertEqual(len({id(row) for table in told for row in table}), 2 * len(web[0]))

    def test_what_is_changed_is_looked_at_anew(self):
        web = copy.deepcopy(ring(8))
        kinds = coarsest_kinds(web)
        web[0][2] = 4
        self.assertIs(is_kin(web, kinds), False)
        self.assertNotEqual(coarsest_kinds(web), kinds)
        self.assertIs(same_kin(web, ring(8)), False)
        web[0][2] = 0
        self.assertIs(is_kin(web, kinds), True)
        self.assertEqual(coarsest_kinds(web), kinds)
        kinds[0][3] = 2
        self.assertIs(is_kin(web, kinds), False)
