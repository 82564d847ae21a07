"""Points [1] and [2]: primes, inverses and powers."""

import unittest

from pointsenough.errors import BadNumber, BadPrime, Nought
from pointsenough.numbers import inverse, is_prime, power
from tests.support import BIG, HUGE, PointCase, numbers_for, wrong_numbers, wrong_primes, wrong_times


def sieve(below):
    told = [True] * below
    told[0] = told[1] = False
    for k in range(2, below):
        if told[k]:
            for many in range(k * k, below, k):
                told[many] = False
    return told


def divided_by_none(value, divisors):
    return all(value % divisor for divisor in divisors if divisor * divisor <= value)


class PrimeTest(PointCase):
    def test_small_ones(self):
        for value, prime in enumerate(sieve(60000)):
            self.assertIs(is_prime(value), prime and value >= 5, value)

    def test_edges(self):
        for value in (5, 7, 11, 10007, 10009, BIG, BIG - 18, 2147483587, 46337, 65537):
            self.tells(True, is_prime, value)
        for value in (2, 3, 4, 6, BIG - 1, BIG + 1, 2147483659, 2147483693, 4294967291, 2 ** 61 - 1):
            self.tells(False, is_prime, value)

    def test_against_trial_division(self):
        primes = [k for k, prime in enumerate(sieve(46342)) if prime]
        starts = (10 ** 6, 10 ** 7, 10 ** 9, 46341 * 46341 - 150, BIG - 150)
        for start in starts:
            for value in range(start, start + 151):
                self.assertIs(is_prime(value), value <= BIG and divided_by_none(value, primes), value)

    def test_composites_that_look_like_primes(self):
        strong = (2047, 3277, 4033, 4681, 8321, 1373653, 1530787, 1987021, 2284453, 3116107, 25326001, 161304001,
                  960946321, 1157839381, 3215031751, 42799, 49141, 52633, 65281, 74665, 80581, 85489, 88357, 90751)
        carmichael = (561, 1105, 1729, 2465, 2821, 6601, 8911, 10585, 15841, 29341, 41041, 825265, 321197185)
        for value in strong + carmichael:
            self.tells(False, is_prime, value)

    def test_products_of_two_large_primes(self):
        large = (46271, 46273, 46279, 46301, 46307, 46309, 46327, 46337)
        for one in large:
            self.assertTrue(is_prime(one))
            for other in large:
                self.tells(False, is_prime, one * other)

    def test_any_value(self):
        for value in wrong_primes():
            self.tells(False, is_prime, value)


class InverseTest(PointCase):
    def test_all_small_ones(self):
        for p in (5, 7, 11, 13, 101):
            for number in range(1, p):
                self.tells([k for k in range(p) if k * number % p == 1][0], inverse, p, number)

    def test_large_ones(self):
        for p in (10007, 1000003, BIG):
            for number in (1, 2, 3, p // 2, p - 2, p - 1) + numbers_for(p, 3, 50):
                if number:
                    self.tells(pow(number, -1, p), inverse, p, number)

    def test_wrong_inputs(self):
        for p in wrong_primes():
            for number in (0, 1, None, -1):
                self.fails(BadPrime, {}, inverse, p, number)
        for p in (5, 7, BIG):
            for number in wrong_numbers(p):
                self.fails(BadNumber, {}, inverse, p, number)
            self.fails(Nought, {}, inverse, p, 0)


class PowerTest(PointCase):
    def test_all_small_ones(self):
        for p in (5, 7, 11):
            for number in range(p):
                for times in range(2 * p + 2):
                    self.tells(number ** times % p, power, p, number, times)

    def test_nought_times(self):
        for p in (5, 7, 10007, BIG):
            for number in (0, 1, 2, p - 1):
                self.tells(1, power, p, number, 0)
            self.tells(0, power, p, 0, 1)
            self.tells(0, power, p, 0, p - 1)
            self.tells(0, power, p, 0, HUGE)

    def test_large_ones(self):
        for p in (101, 10007, BIG):
            for number in (1, 2, p - 1) + numbers_for(p, 5, 10):
                for times in (1, 2, 31, 32, p - 2, p - 1, p, BIG, 10 ** 40 + 7, HUGE, HUGE + 1, 10 ** 400 - 1):
                    self.tells(pow(number, times, p), power, p, number, times)

    def test_wrong_inputs(self):
        for p in wrong_primes():
            for number, times in ((1, 1), (None, -1), (0, 0)):
                self.fails(BadPrime, {}, power, p, number, times)
        for number in wrong_numbers(7):
            for times in (0, 1, 5, None, -1):
                self.fails(BadNumber, {}, power, 7, number, times)
        for times in wrong_times():
            for number in (0, 1, 6):
                self.fails(BadNumber, {}, power, 7, number, times)


if __name__ == "__main__":
    unittest.main()
