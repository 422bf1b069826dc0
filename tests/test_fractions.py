import unittest
from fractions import Fraction
from math import gcd

from evenkin.fractions import fraction_of, product_of, sum_of_two
from helpers import SIXTY, as_told, check_own, is_whole

SIXTY_EVEN = 10 ** 60 - 2
SIXTY_THREES = int("3" * 60)
LARGE = (SIXTY, -SIXTY, SIXTY_EVEN, -SIXTY_EVEN, SIXTY_THREES, 10 ** 59, -(10 ** 59), 2 ** 199)
SMALL = [(top, bottom) for bottom in range(1, 8) for top in range(-9, 10) if gcd(top, bottom) == 1]
BIG = [(SIXTY, 1), (-SIXTY, SIXTY_EVEN), (SIXTY_EVEN, SIXTY), (1, SIXTY), (-1, 10 ** 59), (7, 2 ** 199), (0, 1)]


class Fractions(unittest.TestCase):
    def check_fraction(self, told, right):
        self.assertIsInstance(told, tuple)
        self.assertEqual(told, as_told(right))
        self.assertTrue(is_whole(told[0]) and is_whole(told[1]))


class FractionOf(Fractions):
    def test_tops_and_bottoms_of_either_sign(self):
        for top in range(-30, 31):
            for bottom in range(-30, 31):
                if bottom != 0:
                    with self.subTest(top=top, bottom=bottom):
                        self.check_fraction(fraction_of(top, bottom), Fraction(top, bottom))

    def test_written_out(self):
        self.assertEqual(fraction_of(6, 4), (3, 2))
        self.assertEqual(fraction_of(-6, 4), (-3, 2))
        self.assertEqual(fraction_of(6, -4), (-3, 2))
        self.assertEqual(fraction_of(-6, -4), (3, 2))
        self.assertEqual(fraction_of(5, 5), (1, 1))
        self.assertEqual(fraction_of(5, -5), (-1, 1))

    def test_top_nought_is_nought_by_one(self):
        for bottom in (1, -1, 2, -2, 60, SIXTY, -SIXTY):
            self.assertEqual(fraction_of(0, bottom), (0, 1))

    def test_sixty_figures(self):
        for top in LARGE + (0, 1, -1, 6):
            for bottom in LARGE + (1, -1, 6):
                with self.subTest(top=top, bottom=bottom):
                    self.check_fraction(fraction_of(top, bottom), Fraction(top, bottom))

    def test_a_whole_number_stays(self):
        for top in (0, 1, -1, SIXTY, -SIXTY):
            self.assertEqual(fraction_of(top, 1), (top, 1))

    def test_numbers_of_many_figures(self):
        top, bottom = 6 ** 4000, -(10 ** 3000)
        self.check_fraction(fraction_of(top, bottom), Fraction(top, bottom))


class SumsAndProducts(Fractions):
    def test_small_ones_in_lowest_terms(self):
        for f in SMALL:
            for g in SMALL:
                with self.subTest(f=f, g=g):
                    self.check_fraction(sum_of_two(f, g), Fraction(*f) + Fraction(*g))
                    self.check_fraction(product_of(f, g), Fraction(*f) * Fraction(*g))

    def test_sixty_figures(self):
        for f in BIG + SMALL[:20]:
            for g in BIG:
                with self.subTest(f=f, g=g):
                    self.check_fraction(sum_of_two(f, g), Fraction(*f) + Fraction(*g))
                    self.check_fraction(product_of(f, g), Fraction(*f) * Fraction(*g))

    def test_written_out(self):
        self.assertEqual(sum_of_two((1, 6), (1, 3)), (1, 2))
        self.assertEqual(sum_of_two((1, 2), (1, 2)), (1, 1))
        self.assertEqual(sum_of_two((1, 2), (-1, 3)), (1, 6))
        self.assertEqual(product_of((2, 3), (3, 4)), (1, 2))
        self.assertEqual(product_of((-2, 3), (-3, 2)), (1, 1))
        self.assertEqual(product_of((-2, 3), (3, 2)), (-1, 1))

    def test_either_way_round(self):
        for f in SMALL[::3] + BIG:
            for g in SMALL[::5] + BIG:
                self.assertEqual(sum_of_two(f, g), sum_of_two(g, f))
                self.assertEqual(product_of(f, g), product_of(g, f))

    def test_with_nought_and_one(self):
        for f in SMALL + BIG:
            self.assertEqual(sum_of_two(f, (0, 1)), f)
            self.assertEqual(sum_of_two((0, 1), f), f)
            self.assertEqual(product_of(f, (0, 1)), (0, 1))
            self.assertEqual(product_of((0, 1), f), (0, 1))
            self.assertEqual(product_of(f, (1, 1)), f)

    def test_with_the_opposite(self):
        for f in SMALL + BIG:
            self.assertEqual(sum_of_two(f, (-f[0], f[1])), (0, 1))
            self.assertEqual(product_of(f, (-1, 1)), (-f[0], f[1]))

    def test_with_the_one_turned_over(self):
        for f in SMALL + BIG:
            if f[0] != 0:
                self.assertEqual(product_of(f, fraction_of(f[1], f[0])), (1, 1))


class WhatIsHandedInAndTold(unittest.TestCase):
    def test_handed_in_stays_and_is_told_again(self):
        check_own(self, fraction_of, [6, -4])
        check_own(self, sum_of_two, [(1, 2), (1, 3)])
        check_own(self, product_of, [(1, 2), (2, 3)])

    def test_what_is_told_may_be_handed_in_again(self):
        total = (0, 1)
        for bottom in range(1, 200):
            total = sum_of_two(total, fraction_of(1, bottom))
        self.assertEqual(total, as_told(sum(Fraction(1, bottom) for bottom in range(1, 200))))
