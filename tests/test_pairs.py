import copy
import unittest
from fractions import Fraction
from random import Random

from evenkin.held import held_by_trees
from evenkin.kinds import are_kin, coarsest_kinds, kinds_together, same_kin
from evenkin.pairs import held_by_pairs, look_pairs, parting_steps
from evenkin.partings import part_alike
from evenkin.steps import look_at_steps, steps_total, tables_of_steps
from evenkin.webs import web_renamed
from helpers import (BARE, BARE_SIX, CUBE, LARGE, LATE_PAIRS, LIKE_POWERS, NO_PLACES, ONE_PLACE, ORDER, PATH, SIXTY,
                     TREE_ALIKE, TWO_HUES, UNLIKE_PAIRS, WRONG_KINDS, all_webs, any_steps, as_told, check_fractions,
                     check_own, coarsest_by_splitting, each_its_own, is_reckoning, kin_there, kinds_read, named_in,
                     renumbered, ring, scaled, some_webs, steps_total_there, web_of, web_of_own_weights, web_of_ties,
                     with_hue, with_weight)

TIE = ("tie",)
ALIKE = ((NO_PLACES, NO_PLACES), (ONE_PLACE, ONE_PLACE), (BARE, BARE), (TWO_HUES, web_renamed(TWO_HUES, [1, 0])),
         (PATH, web_renamed(PATH, [1, 0, 2])), (LARGE, web_renamed(LARGE, [1, 0])), (BARE_SIX, BARE_SIX),
         (ring(3, 5), web_renamed(ring(3, 5), ORDER)), (CUBE, web_renamed(CUBE, ORDER)),
         (web_of(8), web_renamed(web_of(8), ORDER)), (LATE_PAIRS[0][0], web_renamed(LATE_PAIRS[0][0], ORDER)),
         (LIKE_POWERS[0], web_renamed(LIKE_POWERS[0], ORDER)))
# Webs that are parted first by a product of two tables that are not the same when they are turned.
LEANING_PAIRS = tuple(((hues, web_of_ties(6, ties)[1]), (hues_there, web_of_ties(6, ties_there)[1])) for
                      hues, ties, hues_there, ties_there in (
    ([1, 1, 0, 0, 0, 0], "01 02 03 04 12 14 15 23 24 45", [1, 1, 0, 0, 0, 0], "01 03 04 05 13 14 15 23 24 34"),
    ([1, 0, 0, 1, 0, 0], "03 04 05 12 14 15 23 25 34", [0, 0, 1, 1, 0, 0], "02 04 05 13 14 15 23 25 34"),
))
UNLIKE = TREE_ALIKE + UNLIKE_PAIRS + LEANING_PAIRS
LONG = 10 ** 900 + 7


def moved(total, by):
    """A fraction so much larger, a whole number."""
    return (total[0] + by * total[1], total[1])


class Held(unittest.TestCase):
    def check_steps(self, web, other, steps):
        """A reckoning that is not refused and has unlike totals."""
        self.assertTrue(is_reckoning(steps))
        self.assertIsNone(look_at_steps(steps))
        totals = [steps_total_there(web, steps), steps_total_there(other, steps)]
        self.assertNotEqual(totals[0], totals[1])
        return totals

    def check_alike(self, web, other):
        self.assertIsNone(parting_steps(web, other))
        told = held_by_pairs(web, other)
        self.assertIs(type(told), tuple)
        self.assertEqual((len(told), told[0]), (3, "alike"))
        self.assertTrue(kin_there([web, other], told[1:]))
        self.assertEqual(sorted(kinds_read([told[1]])), sorted(kinds_read([told[2]])))
        for table, one in zip(told[1:], (web, other)):
            self.assertIs(type(table), list)
            self.assertEqual([len(row) for row in table], [len(one[0])] * len(one[0]))
        self.assertIs(look_pairs(web, other, told), True)

    def check_unlike(self, web, other):
        self.check_steps(web, other, parting_steps(web, other))
        told = held_by_pairs(web, other)
        self.assertIs(type(told), tuple)
        self.assertEqual((len(told), told[0]), (4, "unlike"))
        check_fractions(self, list(told[2:]), self.check_steps(web, other, told[1]))
        self.assertIs(look_pairs(web, other, told), True)

    def check_any(self, web, other):
        kinds, kinds_there = coarsest_by_splitting([web, other])
        alike = sorted(kinds_read([kinds])) == sorted(kinds_read([kinds_there]))
        if alike:
            self.check_alike(web, other)
        else:
            self.check_unlike(web, other)
        return alike


class HeldByPairs(Held):
    def test_alike(self):
        for web, other in ALIKE:
            self.check_alike(web, other)
            self.check_alike(other, web)

    def test_unlike(self):
        for web, other in UNLIKE:
            self.check_unlike(web, other)
            self.check_unlike(other, web)

    def test_webs_without_places(self):
        self.assertIsNone(parting_steps(NO_PLACES, NO_PLACES))
        self.assertEqual(held_by_pairs(NO_PLACES, NO_PLACES), ("alike", [], []))
        for web in (ONE_PLACE, ([0], [[SIXTY]]), ([SIXTY], [[0]]), BARE, PATH, web_of(8)):
            self.check_unlike(NO_PLACES, web)
            self.check_unlike(web, NO_PLACES)

    def test_webs_of_unlike_many_places(self):
        webs = [([0] * size, [[weight] * size for u in range(size)]) for size in range(1, 9) for weight in (0, 1)]
        for web in webs:
            for other in webs:
                if len(web[0]) != len(other[0]):
                    self.check_unlike(web, other)

    def test_one_hue_or_one_weight_another_one(self):
        for web in (ONE_PLACE, BARE, PATH, LARGE, ring(8), CUBE, web_of(8), LATE_PAIRS[0][1], scaled(CUBE, SIXTY)):
            last = len(web[0]) - 1
            for other in (with_hue(web, last, 9), with_weight(web, last, last, 9), with_weight(web, 0, last, -9),
                          with_weight(web, 0, 0, web[1][0][0] + 10 ** 60)):
                self.check_unlike(web, web_renamed(other, list(range(last, -1, -1))))

    def test_weights_exchanged(self):
        web = web_of(8)
        for u, v, x, y in ((0, 1, 2, 3), (0, 1, 0, 2), (0, 0, 5, 6), (4, 4, 7, 7)):
            other = with_weight(with_weight(web, u, v, web[1][x][y]), x, y, web[1][u][v])
            self.check_unlike(web, other)

    def test_all_webs_of_two_places(self):
        webs = list(all_webs(2, (0, 1), (0, 1)))
        found = [self.check_any(web, other) for web in webs for other in webs]
        self.assertEqual(set(found), {True, False})

    def test_just_one_of_two_for_any_webs(self):
        webs = [NO_PLACES] + list(all_webs(1, (0, 1), (0, 1))) + list(some_webs(2, (0, 1), (-1, 0, 1), 12, 201))
        webs += list(some_webs(3, (0,), (0, 1), 12, 202)) + list(some_webs(4, (0,), (0, 1), 6, 203))
        found = [self.check_any(web, other) for web in webs for other in webs]
        self.assertEqual(set(found), {True, False})

    def test_webs_of_eight_places(self):
        webs = list(some_webs(8, (0,), (0, 1), 4, 204)) + list(some_webs(8, (0, 1), (-SIXTY, 0, 1, 7), 2, 205))
        for web in webs:
            for other in webs + [web_renamed(web, ORDER)]:
                self.check_any(web, other)

    def test_none_just_where_the_webs_are_kin(self):
        for web, other in ALIKE + UNLIKE:
            self.assertIs(parting_steps(web, other) is None, same_kin(web, other))

    def test_alike_by_pairs_is_alike_by_trees(self):
        for web, other in ALIKE + UNLIKE:
            told = (held_by_pairs(web, other)[0], held_by_trees(web, other)[0])
            self.assertIn(told, (("alike", "alike"), ("unlike", "alike"), ("unlike", "unlike")))
        for web, other in TREE_ALIKE:
            self.assertIs(part_alike(web, other), True)
            self.assertEqual(held_by_pairs(web, other)[0], "unlike")

    def test_no_step_is_told_that_is_not_needed(self):
        for web, other in UNLIKE:
            steps = parting_steps(web, other)
            named = [number for step in steps for number in named_in(step)]
            self.assertEqual(set(named), set(range(len(steps) - 1)))

    def test_weights_that_leave_like_rests(self):
        # The first primes that weights are held against, their product, and totals that differ by them alone.
        for number in (1000003, 1000033, 1000003 * 1000033, 1000003 ** 9, 1000003 * 1000033 * 1000037 * 1000039):
            self.check_unlike(ONE_PLACE, ([0], [[number]]))
            self.check_unlike(ONE_PLACE, ([0], [[-number]]))
            self.check_unlike(web_of_own_weights([1, 2]), web_of_own_weights([3, number]))
            self.check_unlike(ring(8), with_weight(ring(8), 0, 1, 1 + number))
            self.check_unlike(web_of(8), with_weight(web_of(8), 0, 5, web_of(8)[1][0][5] - number))
            self.check_unlike(scaled(ring(6), number), scaled(ring(3, 3), number))
            self.check_alike(scaled(CUBE, number), web_renamed(scaled(CUBE, number), ORDER))

    def test_large_weights(self):
        for factor in (SIXTY, -SIXTY, 10 ** 58):
            for web, other in TREE_ALIKE + (LIKE_POWERS,):
                self.check_unlike(scaled(web, factor), scaled(other, factor))

    def test_small_webs_have_short_papers(self):
        chance = Random(206)
        webs = list(some_webs(3, (0,), (-99, 1, 99), 20, 207)) + list(some_webs(3, (0, 1), range(-99, 100), 20, 208))
        for web in webs:
            other = chance.choice(webs)
            self.assertLessEqual(len(repr(held_by_pairs(web, other)[2:])), 4000)


class LookAtKinds(Held):
    def check(self, web, other, kinds, kinds_there, right):
        self.assertIs(look_pairs(web, other, ("alike", kinds, kinds_there)), right)
        self.assertIs(look_pairs(other, web, ("alike", kinds_there, kinds)), right)

    def test_kinds_numbered_in_whatever_way(self):
        chance = Random(211)
        for web, other in ALIKE:
            kinds, kinds_there = kinds_together(web, other)
            many = len(set(kinds_read([kinds])))
            for numbers in (list(range(many)), list(range(many, 0, -1)), [-1 - 3 * kind for kind in range(many)],
                            [LONG - kind for kind in range(many)], chance.sample(range(-10 ** 9, 10 ** 9), many)):
                self.check(web, other, renumbered(kinds, numbers), renumbered(kinds_there, numbers), True)

    def test_finer_kinds(self):
        for web, order in ((PATH, [1, 0, 2]), (ring(8), ORDER), (web_of(8), ORDER), (CUBE, ORDER)):
            own = each_its_own(web)
            self.check(web, web_renamed(web, order), own, [[own[u][v] for v in order] for u in order], True)
        turns = [[(v - u) % 8 for v in range(8)] for u in range(8)]
        self.check(ring(8), ring(8), turns, turns, True)
        self.check(ring(8), ring(8), turns, renumbered(turns, [0, 7, 6, 5, 4, 3, 2, 1]), True)
        self.check(ring(8), ring(8), turns, renumbered(turns, [0, 3, 6, 1, 4, 7, 2, 5]), False)
        self.check(ring(8), ring(8), turns, renumbered(turns, [0, 5, 2, 3, 4, 1, 6, 7]), False)

    def test_each_wrong_alone(self):
        for name, (web, kinds, wrongs) in WRONG_KINDS.items():
            with self.subTest(wrong=name):
                self.check(web, web, kinds, kinds, False)

    def test_a_kind_with_another_number_of_pairs(self):
        for web, other in ALIKE[1:]:
            kinds, kinds_there = kinds_together(web, other)
            apart = [[-1 - kind for kind in row] for row in kinds_there]
            self.assertIs(are_kin(web, other, kinds, apart), True)
            self.check(web, other, kinds, apart, False)
            self.check(web, other, each_its_own(web), each_its_own(other, 64), False)
        # Kin together, and the kinds of the one are among those of the other.
        self.check(NO_PLACES, ONE_PLACE, [], [[0]], False)
        both = ([0, 1, 2], [[0] * 3 for u in range(3)])
        swapped = ([0, 1, 3], [[0] * 3 for u in range(3)])
        kinds, kinds_there = kinds_together(both, swapped)
        self.assertIs(are_kin(both, swapped, kinds, kinds_there), True)
        self.check(both, swapped, kinds, kinds_there, False)

    def test_webs_that_are_not_kin(self):
        for web, other in UNLIKE:
            kinds, kinds_there = kinds_together(web, other)
            self.check(web, other, kinds, kinds_there, False)
            self.check(web, other, coarsest_kinds(web), coarsest_kinds(other), False)
            self.check(web, other, each_its_own(web), each_its_own(other), False)
            self.check(web, other, coarsest_kinds(web), coarsest_kinds(web), False)

    def test_tables_of_other_lengths(self):
        for web, other in ALIKE[1:]:
            kinds, kinds_there = kinds_together(web, other)
            new = 99
            for wrong in ([], [[]], kinds[1:], kinds[:-1], kinds + [kinds[0]], kinds + [[]], [kinds[0][1:]] + kinds[1:],
                          kinds[:-1] + [kinds[-1][:-1]], kinds[:-1] + [kinds[-1] + [new]], [[]] + kinds[1:],
                          [row + [new] for row in kinds], [row[:-1] for row in kinds],
                          [row + [new] for row in kinds] + [[new] * (len(kinds) + 1)], [kinds_read([kinds])]):
                if wrong != kinds:
                    self.check(web, other, wrong, kinds_there, False)
                    self.check(web, other, wrong, wrong, False)
                    self.check(web, other, kinds, wrong, False)
        self.check(NO_PLACES, NO_PLACES, [[]], [[]], False)
        self.check(NO_PLACES, NO_PLACES, [[0]], [[0]], False)
        self.check(NO_PLACES, NO_PLACES, [], [[]], False)

    def test_rows_of_as_many_kinds_in_all(self):
        self.check(BARE, BARE, [[0, 1, 1], [0]], [[0, 1, 1], [0]], False)
        self.check(BARE, BARE, [[0], [1], [1], [0]], [[0], [1], [1], [0]], False)
        self.check(BARE, BARE, [[0, 1], [1, 0]], [[0, 1, 1], [0]], False)
        self.check(BARE, BARE, [[0, 1], [1, 0]], [[0, 1, 1, 0]], False)

    def test_told_tables_with_one_thing_changed(self):
        for web, other in ALIKE[4:]:
            told = held_by_pairs(web, other)
            for u, v, kind in ((0, 0, told[1][0][1]), (0, 1, told[1][0][0]), (1, 0, 99), (1, 1, -1), (0, 0, LONG)):
                for table in (1, 2):
                    paper = copy.deepcopy(told)
                    paper[table][u][v] = kind
                    self.check(web, other, paper[1], paper[2], False)
            last = len(web[0]) - 1
            for changed in (with_hue(web, last, 99), with_weight(web, last, last, 99), with_weight(web, 0, last, 99)):
                self.check(changed, other, told[1], told[2], False)

    def test_rows_in_another_order(self):
        for web in (PATH, ring(3, 5), web_of(8)):
            kinds = coarsest_kinds(web)
            self.check(web, web, kinds[1:] + kinds[:1], kinds, False)
        for web in (PATH, ring(3, 5)):
            kinds = coarsest_kinds(web)
            self.check(web, web, kinds[1:] + kinds[:1], kinds[1:] + kinds[:1], False)


class LookAtSteps(Held):
    def check(self, web, other, steps, total, other_total, right):
        self.assertIs(look_pairs(web, other, ("unlike", steps, total, other_total)), right)

    def test_any_reckoning(self):
        chance = Random(221)
        webs = [NO_PLACES, ONE_PLACE, PATH, LARGE, ring(3), TWO_HUES, ring(8)]
        found = []
        for turn in range(60):
            web, other = chance.sample(webs, 2)
            steps = any_steps(chance, chance.randint(1, 12), ((1, 2), (-5, 6), (3, 1)))
            totals = (steps_total_there(web, steps), steps_total_there(other, steps))
            found.append(totals[0] != totals[1])
            self.check(web, other, steps, *totals, found[-1])
        self.assertEqual(set(found), {True, False})

    def test_totals_that_are_not_right(self):
        for web, other in UNLIKE:
            kind, steps, total, other_total = held_by_pairs(web, other)
            self.check(web, other, steps, other_total, total, False)
            self.check(other, web, steps, other_total, total, True)
            self.check(web, other, steps, total, total, False)
            self.check(web, other, steps, other_total, other_total, False)
            for by in (1, -1, LONG, -LONG):
                self.check(web, other, steps, moved(total, by), other_total, False)
                self.check(web, other, steps, total, moved(other_total, by), False)
                self.check(web, other, steps, moved(total, by), moved(other_total, by), False)
            for wrong in ((1, LONG), (-LONG, LONG + 1), (LONG, LONG + 1), (total[0] * 2 + 1, total[1] * 2)):
                self.check(web, other, steps, wrong, other_total, False)
                self.check(web, other, steps, total, wrong, False)
                self.check(web, other, steps, wrong, wrong, False)

    def test_totals_that_are_right_and_alike(self):
        for web, other in ALIKE + UNLIKE:
            for steps in ([TIE], [("all",)], [("same",)], [("hue", 0)], [TIE, ("then", 0, 0)]):
                totals = (steps_total_there(web, steps), steps_total_there(other, steps))
                self.check(web, other, steps, *totals, totals[0] != totals[1])

    def test_totals_of_any_size(self):
        steps = [TIE, ("many", (1, LONG), 0), ("many", (LONG + 1, 1), 1), ("plus", 0, 2)]
        for web, other in ((PATH, ring(3)), (LARGE, PATH)):
            totals = (steps_total_there(web, steps), steps_total_there(other, steps))
            self.check(web, other, steps, *totals, True)
            self.check(web, other, steps, (totals[0][0] + 1, totals[0][1]), totals[1], False)
            self.check(web, other, steps, totals[0], (totals[1][0] - 1, totals[1][1]), False)

    def test_three_hundred_steps(self):
        steps = [TIE] + [("then", place, 0) for place in range(299)]
        totals = (steps_total_there(PATH, steps), steps_total_there(ring(3), steps))
        self.check(PATH, ring(3), steps, *totals, True)
        self.check(PATH, ring(3), steps, (totals[0][0] + 1, 1), totals[1], False)
        self.check(ring(6), ring(3, 3), steps, (6 * 2 ** 300, 1), (6 * 2 ** 300, 1), False)

    def test_steps_behind_the_right_ones(self):
        for web, other in UNLIKE:
            kind, steps, total, other_total = held_by_pairs(web, other)
            last = len(steps) - 1
            self.check(web, other, steps + [("turned", last)], total, other_total, True)
            self.check(web, other, steps + [("many", (0, 1), last)], total, other_total, False)
            doubled = [as_told(2 * Fraction(*f)) for f in (total, other_total)]
            self.check(web, other, steps + [("plus", last, last)], *doubled, True)

    def test_other_webs(self):
        for web, other in UNLIKE:
            paper = held_by_pairs(web, other)
            self.assertIs(look_pairs(web, web, paper), False)
            self.assertIs(look_pairs(other, other, paper), False)

    def test_a_paper_of_the_other_kind(self):
        for web, other in ALIKE:
            for steps in ([TIE], [("all",)], [TIE, ("then", 0, 0), ("meet", 0, 1)]):
                self.check(web, other, steps, steps_total(web, steps), steps_total(other, steps), False)
                self.check(web, other, steps, steps_total(web, steps), moved(steps_total(other, steps), 1), False)
        for web, other in UNLIKE:
            for one in (web, other):
                paper = ("alike", coarsest_kinds(one), coarsest_kinds(one))
                self.assertIs(look_pairs(web, other, paper), False)


class WhatIsHandedInAndTold(Held):
    def test_own(self):
        for web, other in ALIKE + UNLIKE:
            for ask in (parting_steps, held_by_pairs):
                check_own(self, ask, [copy.deepcopy(web), copy.deepcopy(other)])
            paper = held_by_pairs(web, other)
            check_own(self, look_pairs, [copy.deepcopy(web), copy.deepcopy(other), copy.deepcopy(paper)])
        for web, kinds, wrongs in WRONG_KINDS.values():
            paper = ("alike", copy.deepcopy(kinds), copy.deepcopy(kinds))
            check_own(self, look_pairs, [copy.deepcopy(web), copy.deepcopy(web), paper])

    def test_one_web_handed_in_twice(self):
        for web in (NO_PLACES, PATH, CUBE, web_of(8)):
            self.check_alike(web, web)
            kinds = coarsest_kinds(web)
            self.assertIs(look_pairs(web, web, ("alike", kinds, kinds)), True)

    def test_what_is_told_is_handed_in_again(self):
        for web, other in UNLIKE:
            kind, steps, total, other_total = held_by_pairs(web, other)
            self.assertEqual(steps_total(web, steps), total)
            self.assertEqual(steps_total(other, steps), other_total)
            self.assertEqual(len(tables_of_steps(web, steps)), len(steps))
            self.assertIs(look_pairs(web, other, ("unlike", parting_steps(web, other), total, other_total)), True)
        for web, other in ALIKE:
            kind, kinds, kinds_there = held_by_pairs(web, other)
            self.assertIs(are_kin(web, other, kinds, kinds_there), True)
            self.assertIs(look_pairs(other, web, (kind, kinds_there, kinds)), True)

    def test_papers_that_are_changed_are_looked_at_anew(self):
        paper = held_by_pairs(ring(8), ring(8))
        kind = paper[1][0][1]
        paper[1][0][1] = paper[1][0][2]
        self.assertIs(look_pairs(ring(8), ring(8), paper), False)
        paper[1][0][1] = kind
        self.assertIs(look_pairs(ring(8), ring(8), paper), True)
        paper = held_by_pairs(PATH, ring(3))
        paper[1].append(("same",))
        self.assertIs(look_pairs(PATH, ring(3), paper), False)
        paper[1].pop()
        self.assertIs(look_pairs(PATH, ring(3), paper), True)
