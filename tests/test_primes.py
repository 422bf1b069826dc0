import unittest

from evenkin.primes import is_prime, parting_prime
from helpers import SIXTY


class Primes(unittest.TestCase):
    def test_which_numbers_are_primes(self):
        primes = [number for number in range(2, 60) if is_prime(number)]
        self.assertEqual(primes, [2, 3, 5, 7, 11, 13, 17, 19, 23, 29, 31, 37, 41, 43, 47, 53, 59])
        self.assertEqual([number for number in range(1000000, 1000040) if is_prime(number)],
                         [1000003, 1000033, 1000037, 1000039])
        self.assertFalse(is_prime(997 * 997))

    def test_the_first_that_keeps_numbers_apart(self):
        for numbers, least, prime in (([], 2, 2), ([], 4, 5), ([7], 90, 97), ([3, 3, 3], 2, 2), ([0, 1], 2, 2),
                                      ([0, 2], 2, 3), ([0, 6], 2, 5), ([0, 5, 6], 4, 7), ([-1, 1], 2, 3),
                                      ([0, 30], 2, 7), ([0, -30], 2, 7), ([SIXTY, SIXTY], 5, 5),
                                      ([0, 1000003], 1000003, 1000033), ([5, 5 - 1000003 * 1000033], 1000003, 1000037)):
            self.assertEqual(parting_prime(numbers, least), prime)

    def test_unlike_numbers_leave_unlike_rests(self):
        for numbers in ([SIXTY - k for k in range(72)], [(-7) ** k for k in range(64)], [10 ** k for k in range(60)]):
            prime = parting_prime(numbers, 2)
            self.assertTrue(is_prime(prime))
            self.assertEqual(len({number % prime for number in numbers}), len(numbers))
