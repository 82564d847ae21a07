"""Points [1], [3] and [4]: lines."""

import unittest
from itertools import product

from pointsenough.errors import BadLine, BadNumber, BadPoints, BadPrime, Nought, SamePlace, TooGreat, TooMany
from pointsenough.lines import (
    at, divided, is_line, led, minus, noughts, plus, scaled, through, times, with_noughts,
)
from tests.support import (
    BIG, HUGE, PointCase, line_for, numbers_for, plain_product, plain_sum, plain_trim, plain_value, wrong_lines,
    wrong_numbers, wrong_pairs, wrong_places, wrong_primes,
)

PRIMES = (5, 7, 11, 10007, BIG)


def lines_below(p, length):
    """All lines of at most so many numbers."""
    told = [()]
    for many in range(1, length + 1):
        told.extend(numbers for numbers in product(range(p), repeat=many) if numbers[-1] != 0)
    return told


def drawn_lines(p):
    """Lines of many lengths, with noughts within too."""
    told = [(), (1,), (p - 1,), (0, 1), (0, 0, 1), (0,) * 9 + (p - 1,), (p - 1,) * 6]
    told.extend(line_for(p, seed, many) for seed, many in enumerate((1, 2, 3, 4, 5, 8, 13, 30, 99)))
    return told


def naive_led(p, line, low, step):
    told = ()
    factor = (1,)
    for number in line:
        told = plain_sum(p, told, factor, number)
        factor = plain_product(p, factor, (low, step))
    return told


class ExamplesTest(PointCase):
    def test_first_row(self):
        self.tells((1, 1, 1), through, 7, ((0, 1), (1, 3), (2, 0)))
        self.tells(1, at, 7, (1, 2, 3), 4)
        self.tells((6, 0, 1), times, 7, (1, 1), (6, 1))

    def test_second_row(self):
        self.tells(((6, 1), ()), divided, 7, (6, 0, 1), (1, 1))
        self.tells((1, 6), noughts, 7, (6, 0, 1))
        self.tells((0, 3, 1), with_noughts, 5, (0, 2))


class IsLineTest(PointCase):
    def test_lines(self):
        for p in PRIMES:
            for line in drawn_lines(p) + [(1,) * 200, (0,) * 199 + (1,), (p - 1,) * 200, line_for(p, 8, 200)]:
                self.tells(True, is_line, p, line)

    def test_what_is_none(self):
        for p in PRIMES:
            for value in wrong_lines(p):
                self.tells(False, is_line, p, value)

    def test_the_prime_matters(self):
        self.tells(False, is_line, 5, (5,))
        self.tells(True, is_line, 7, (5,))
        self.tells(False, is_line, 7, (1, 7, 1))
        self.tells(True, is_line, 11, (1, 7, 1))

    def test_wrong_primes(self):
        for p in wrong_primes():
            for value in ((), (1,), None, "line"):
                self.fails(BadPrime, {}, is_line, p, value)


class AtTest(PointCase):
    def test_all_small_ones(self):
        for line in lines_below(5, 3):
            for place in range(5):
                self.tells(plain_value(5, line, place), at, 5, line, place)

    def test_drawn_ones(self):
        for p in PRIMES:
            for line in drawn_lines(p) + [line_for(p, 4, 200)]:
                for place in (0, 1, p - 1) + numbers_for(p, 9, 5):
                    self.tells(plain_value(p, line, place), at, p, line, place)

    def test_edges(self):
        for p in PRIMES:
            self.tells(0, at, p, (), 3)
            self.tells(4, at, p, (4,), p - 1)
            self.tells(3, at, p, (3, 1, 1), 0)


class PlusMinusTest(PointCase):
    def test_all_small_ones(self):
        told = lines_below(5, 2)
        for one in told:
            for other in told:
                self.tells(plain_sum(5, one, other, 1), plus, 5, one, other)
                self.tells(plain_sum(5, one, other, -1), minus, 5, one, other)

    def test_drawn_ones(self):
        for p in PRIMES:
            told = drawn_lines(p) + [line_for(p, 4, 200)]
            for one in told:
                for other in told:
                    self.tells(plain_sum(p, one, other, 1), plus, p, one, other)
                    self.tells(plain_sum(p, one, other, -1), minus, p, one, other)

    def test_what_falls_away(self):
        self.tells((), plus, 7, (1, 2, 3), (6, 5, 4))
        self.tells((1,), plus, 7, (1, 2, 3), (0, 5, 4))
        self.tells((0, 1), minus, 7, (3, 2, 3), (3, 1, 3))
        self.tells((), minus, 7, (3, 2, 3), (3, 2, 3))
        self.tells((4, 5, 4), minus, 7, (), (3, 2, 3))
        self.tells((3, 2, 3), minus, 7, (3, 2, 3), ())
        self.tells((), plus, 7, (), ())
        self.tells((), minus, 7, (), ())

    def test_lines_of_200(self):
        one, other = (1,) * 200, (0,) * 199 + (6,)
        self.tells((1,) * 199, plus, 7, one, other)
        self.tells((2,) * 200, plus, 7, one, one)
        self.tells((), minus, 7, one, one)


class TimesTest(PointCase):
    def test_all_small_ones(self):
        told = lines_below(5, 2)
        for one in told:
            for other in told:
                self.tells(plain_product(5, one, other), times, 5, one, other)

    def test_drawn_ones(self):
        for p in PRIMES:
            told = drawn_lines(p)
            for one in told:
                for other in told:
                    self.tells(plain_product(p, one, other), times, p, one, other)

    def test_at_most_200_numbers(self):
        for p in (5, BIG):
            for left, right in ((1, 200), (200, 1), (101, 100), (100, 101), (2, 199), (60, 141)):
                one, other = line_for(p, 1, left), line_for(p, 2, right)
                self.assertEqual(len(self.tells(plain_product(p, one, other), times, p, one, other)), 200)
            for left, right in ((2, 200), (200, 2), (101, 101), (199, 3), (200, 200), (61, 141)):
                one, other = line_for(p, 1, left), line_for(p, 2, right)
                self.fails(TooMany, {"most": 200}, times, p, one, other)

    def test_nought_times_the_longest(self):
        self.tells((), times, 7, (), (1,) * 200)
        self.tells((), times, 7, (1,) * 200, ())
        self.tells((), times, 7, (), ())

    def test_wrong_ones_come_ahead_of_too_many(self):
        longest = (1,) * 200
        self.fails(BadPrime, {}, times, 9, longest, longest)
        self.fails(BadLine, {}, times, 7, longest, (1,) * 199 + (0,))
        self.fails(BadLine, {}, times, 7, (1,) * 201, longest)
        self.fails(BadLine, {}, times, 7, longest, (1,) * 201)


class ScaledTest(PointCase):
    def test_ordinary(self):
        for p in PRIMES:
            for line in drawn_lines(p) + [line_for(p, 4, 200)]:
                for number in (0, 1, 2, p - 1) + numbers_for(p, 6, 3):
                    self.tells(plain_sum(p, (), line, number), scaled, p, line, number)

    def test_nought(self):
        self.tells((), scaled, 7, (1, 2, 3), 0)
        self.tells((), scaled, 7, (), 3)
        self.tells((6, 5, 4), scaled, 7, (1, 2, 3), 6)


class DividedTest(PointCase):
    def check(self, p, one, other):
        quotient, rest = divided(p, one, other)
        self.tells((quotient, rest), divided, p, one, other)
        self.tells(True, is_line, p, quotient)
        self.tells(True, is_line, p, rest)
        self.assertLess(len(rest), len(other))
        self.assertEqual(plain_sum(p, plain_product(p, quotient, other), rest, 1), one)

    def test_all_small_ones(self):
        for one in lines_below(5, 3):
            for other in lines_below(5, 2):
                if other:
                    self.check(5, one, other)

    def test_drawn_ones(self):
        for p in PRIMES:
            told = drawn_lines(p) + [line_for(p, 4, 200), (1,) * 200]
            for one in told:
                for other in told:
                    if other:
                        self.check(p, one, other)

    def test_edges(self):
        self.tells(((), ()), divided, 7, (), (1, 2))
        self.tells(((), ()), divided, 7, (), (3,))
        self.tells(((), (1, 2)), divided, 7, (1, 2), (1, 2, 3))
        self.tells(((1,), ()), divided, 7, (1, 2, 3), (1, 2, 3))
        self.tells(((4, 1, 5), ()), divided, 7, (1, 2, 3), (2,))
        self.tells(((1,) * 199, ()), divided, 7, (6,) + (0,) * 198 + (1,), (6, 1))

    def test_by_nought(self):
        for one in ((), (1,), (1, 2), (1,) * 200):
            self.fails(Nought, {}, divided, 7, one, ())
        self.fails(BadLine, {}, divided, 7, (0,), ())
        self.fails(BadPrime, {}, divided, 4, (1,), ())


class ThroughTest(PointCase):
    def check(self, p, points):
        line = through(p, points)
        self.tells(line, through, p, points)
        self.tells(True, is_line, p, line)
        self.assertLessEqual(len(line), len(points))
        for place, number in points:
            self.assertEqual(plain_value(p, line, place), number)

    def test_edges(self):
        self.tells((), through, 7, ())
        self.tells((), through, 7, ((3, 0),))
        self.tells((5,), through, 7, ((3, 5),))
        self.tells((), through, 7, ((3, 0), (0, 0), (6, 0)))
        self.tells((4,), through, 7, ((3, 4), (0, 4), (6, 4)))
        self.tells((0, 1), through, 7, ((3, 3), (0, 0), (6, 6), (2, 2)))

    def test_all_small_ones(self):
        for values in product(range(5), repeat=3):
            self.check(5, tuple(zip((4, 0, 2), values)))

    def test_drawn_ones(self):
        for p in PRIMES:
            for many in (1, 2, 3, 4, 5, 7, 20, 60):
                places = list(dict.fromkeys(numbers_for(p, many, 400)))[:many]
                self.check(p, tuple(zip(places, numbers_for(p, many + 70, len(places)))))

    def test_finds_the_line_again(self):
        for p in (101, BIG):
            for many in (1, 2, 5, 20, 60):
                line = line_for(p, many, many)
                points = tuple((place, plain_value(p, line, place)) for place in range(60))
                self.tells(line, through, p, points)
                self.tells(line, through, p, tuple(reversed(points)))

    def test_all_places(self):
        for p in (5, 7):
            self.check(p, tuple((place, (place * place + 1) % p) for place in range(p)))
            self.tells((1, 0, 1), through, p, tuple((place, (place * place + 1) % p) for place in range(p)))
        self.tells((0, 0, 0, 0, 1), through, 5, ((0, 0), (1, 1), (2, 1), (3, 1), (4, 1)))

    def test_at_most_60_pairs(self):
        points = tuple((place, 1) for place in range(61))
        self.tells((1,), through, 101, points[:60])
        self.fails(BadPoints, {}, through, 101, points)
        self.fails(BadPoints, {}, through, 101, ((1, 1),) * 61)

    def test_same_place(self):
        self.fails(SamePlace, {"place": 2}, through, 7, ((1, 1), (2, 2), (2, 3), (1, 1)))
        self.fails(SamePlace, {"place": 1}, through, 7, ((1, 1), (2, 2), (1, 3), (2, 1)))
        self.fails(SamePlace, {"place": 0}, through, 7, ((0, 4), (0, 4)))
        self.fails(SamePlace, {"place": 6}, through, 7, ((6, 0), (5, 1), (6, 0)))
        self.fails(SamePlace, {"place": 3}, through, 7, ((3, 1),) * 60)
        self.fails(SamePlace, {"place": 0}, through, 5, tuple((place % 5, 1) for place in range(60)))
        self.tells((1,), through, 7, ((1, 1), (2, 1)))

    def test_wrong_pairs_come_ahead_of_same_places(self):
        self.fails(BadPoints, {}, through, 7, ((1, 1), (1, 2), (7, 1)))
        self.fails(BadPoints, {}, through, 7, ((1, 1), (1, 2), None))
        self.fails(BadPrime, {}, through, 9, ((1, 1), (1, 2)))


class WithNoughtsTest(PointCase):
    def test_ordinary(self):
        for p in PRIMES:
            for many in (0, 1, 2, 3, 7, 20, 60):
                places = numbers_for(p, many, many)
                expected = (1,)
                for place in places:
                    expected = plain_product(p, expected, ((p - place) % p, 1))
                self.tells(expected, with_noughts, p, places)

    def test_edges(self):
        self.tells((1,), with_noughts, 7, ())
        self.tells((0, 1), with_noughts, 7, (0,))
        self.tells((1, 1), with_noughts, 7, (6,))
        self.tells((0,) * 60 + (1,), with_noughts, 7, (0,) * 60)
        self.tells((1, 5, 1), with_noughts, 7, (1, 1))
        self.tells((0, 6, 0, 0, 0, 0, 0, 1), with_noughts, 7, (0, 1, 2, 3, 4, 5, 6))
        self.fails(BadPoints, {}, with_noughts, 7, (0,) * 61)


class NoughtsTest(PointCase):
    def test_all_small_ones(self):
        for p, length in ((5, 4), (7, 3)):
            for line in lines_below(p, length):
                if line:
                    expected = tuple(place for place in range(p) if plain_value(p, line, place) == 0)
                    self.tells(expected, noughts, p, line)

    def test_larger_ones(self):
        for p, places in ((101, (0, 3, 50, 100)), (10007, (0, 1, 5000, 10006)), (9973, (7, 9000))):
            line = (3,)
            for place in places:
                line = plain_product(p, line, ((p - place) % p, 1))
            self.tells(places, noughts, p, line)

    def test_edges(self):
        self.tells((), noughts, 7, (3,))
        self.tells((0,), noughts, 7, (0, 0, 0, 2))
        self.tells((0, 1, 2, 3, 4, 5, 6), noughts, 7, (0, 6, 0, 0, 0, 0, 0, 1))
        self.tells((), noughts, 10007, (1,))
        self.tells((0,), noughts, 7, (0,) * 199 + (1,))

    def test_nought_everywhere(self):
        for p in (5, 7, 10007, 10009, BIG):
            self.fails(Nought, {}, noughts, p, ())

    def test_too_great(self):
        for p in (10009, 10037, BIG):
            for line in ((1,), (0, 1), (1, 2, 3)):
                self.fails(TooGreat, {"most": 10007}, noughts, p, line)
            self.fails(BadLine, {}, noughts, p, (0,))
            self.fails(BadLine, {}, noughts, p, (p,))


class LedTest(PointCase):
    def test_all_small_ones(self):
        for line in lines_below(5, 3):
            for low in range(5):
                for step in range(5):
                    self.tells(naive_led(5, line, low, step), led, 5, line, low, step)

    def test_drawn_ones(self):
        for p in PRIMES:
            for line in drawn_lines(p) + [line_for(p, 4, 200)]:
                for low, step in ((0, 0), (0, 1), (1, 0), (p - 1, p - 1), (3, 2), numbers_for(p, len(line), 2)):
                    self.tells(naive_led(p, line, low, step), led, p, line, low, step)

    def test_edges(self):
        self.tells((), led, 7, (), 3, 4)
        self.tells((), led, 7, (), 0, 0)
        self.tells((1, 2, 3), led, 7, (1, 2, 3), 0, 1)
        self.tells((1,), led, 7, (1, 2, 3), 4, 0)
        self.tells((), led, 7, (6, 1), 1, 0)
        self.tells((2, 3), led, 7, (0, 1), 2, 3)


class LinesTogetherTest(PointCase):
    def test_values_belong_together(self):
        p = 101
        one, other = line_for(p, 1, 6), line_for(p, 2, 4)
        quotient, rest = divided(p, one, other)
        for place in range(p):
            left, right = at(p, one, place), at(p, other, place)
            self.assertEqual(at(p, plus(p, one, other), place), (left + right) % p)
            self.assertEqual(at(p, minus(p, one, other), place), (left - right) % p)
            self.assertEqual(at(p, times(p, one, other), place), left * right % p)
            self.assertEqual(at(p, scaled(p, one, 9), place), left * 9 % p)
            self.assertEqual((at(p, quotient, place) * right + at(p, rest, place)) % p, left)
            self.assertEqual(at(p, led(p, one, 5, 8), place), at(p, one, (5 + 8 * place) % p))

    def test_trimming_of_the_comparison_itself(self):
        self.assertEqual(plain_trim((0, 1, 0, 0)), (0, 1))
        self.assertEqual(plain_product(7, (1, 1), (6, 1)), (6, 0, 1))


class WrongInputsTest(PointCase):
    """Each argument by itself; which error is told first stands in test_order.py."""

    def test_primes(self):
        for p in wrong_primes():
            self.fails(BadPrime, {}, at, p, (1, 2), 1)
            self.fails(BadPrime, {}, plus, p, (1,), (2,))
            self.fails(BadPrime, {}, minus, p, (1,), (2,))
            self.fails(BadPrime, {}, times, p, (1,), (2,))
            self.fails(BadPrime, {}, scaled, p, (1,), 1)
            self.fails(BadPrime, {}, divided, p, (1,), (2,))
            self.fails(BadPrime, {}, through, p, ((0, 1),))
            self.fails(BadPrime, {}, with_noughts, p, (0, 1))
            self.fails(BadPrime, {}, noughts, p, (1,))
            self.fails(BadPrime, {}, led, p, (1,), 1, 1)

    def test_lines(self):
        for p in (5, 7, BIG):
            for line in wrong_lines(p):
                self.fails(BadLine, {}, at, p, line, 1)
                for function in (plus, minus, times, divided):
                    self.fails(BadLine, {}, function, p, line, (1, 2))
                    self.fails(BadLine, {}, function, p, (1, 2), line)
                self.fails(BadLine, {}, scaled, p, line, 1)
                self.fails(BadLine, {}, noughts, p, line)
                self.fails(BadLine, {}, led, p, line, 1, 1)

    def test_numbers(self):
        for p in (5, 7, BIG):
            for number in wrong_numbers(p):
                for line in ((), (1, 2)):
                    self.fails(BadNumber, {}, at, p, line, number)
                    self.fails(BadNumber, {}, scaled, p, line, number)
                    self.fails(BadNumber, {}, led, p, line, number, 1)
                    self.fails(BadNumber, {}, led, p, line, 1, number)

    def test_pairs_and_places(self):
        for p in (7, 101):
            for points in wrong_pairs(p):
                self.fails(BadPoints, {}, through, p, points)
            for places in wrong_places(p):
                self.fails(BadPoints, {}, with_noughts, p, places)

    def test_huge_numbers(self):
        self.fails(BadNumber, {}, at, 7, (1, 2), HUGE)
        self.fails(BadPoints, {}, with_noughts, 7, (HUGE,))


if __name__ == "__main__":
    unittest.main()
