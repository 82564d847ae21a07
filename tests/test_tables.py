"""Points [1] and [5] to [8]: tables and spreads."""

import unittest
from itertools import product

from pointsenough.errors import BadNumber, BadPoint, BadPrime, BadRow, BadTable, TooGreat, UnlikePoints
from pointsenough.tables import (
    alike, behind, held, index_of, is_table, row_of, spread, spread_noughts, weights, whole,
)
from tests.support import (
    BIG, HUGE, PointCase, bits_rows, numbers_for, plain_spread, plain_weight, wrong_integers, wrong_numbers,
    wrong_points, wrong_primes, wrong_rows, wrong_tables,
)

PRIMES = (5, 7, 11, 10007, BIG)


def drawn_tables(p, most):
    """Tables of each size up to that of so many names."""
    told = []
    for names in range(most + 1):
        size = 2 ** names
        told.extend((numbers_for(p, names + 1, size), (0,) * size, (p - 1,) * size, (0,) * (size - 1) + (1,)))
    return told


def plain_noughts(p, table):
    names = len(table).bit_length() - 1
    return sum(1 for point in product(range(p), repeat=names) if plain_spread(p, table, point) == 0)


def plain_behind(p, one, other):
    """By the sum over all rows but the last, each weighed with the one behind it."""
    rows = bits_rows(len(one))
    return sum(plain_weight(p, row, one) * plain_weight(p, then, other) for row, then in zip(rows, rows[1:])) % p


def plain_alike(p, one, other):
    told = 1
    for x, y in zip(one, other):
        told = told * (x * y + (1 - x) * (1 - y)) % p
    return told


class ExamplesTest(PointCase):
    def test_first_row(self):
        self.tells(2, spread, 11, (1, 2, 3, 4), (0, 1))
        self.tells(7, spread, 11, (1, 2, 3, 4), (5, 7))
        self.tells((0, 1), held, 11, (1, 2, 3, 4), 5)
        self.tells((2, 5, 3, 2), weights, 11, (5, 7))

    def test_second_row(self):
        self.tells((1, 1, 0), row_of, 3, 6)
        self.tells(1, alike, 11, (1, 0), (1, 0))
        self.tells(1, behind, 11, (0, 1), (1, 0))
        self.tells(0, behind, 11, (1, 1), (0, 0))
        self.tells(9, spread_noughts, 5, (1, 0, 0, 0))


class IsTableTest(PointCase):
    def test_tables(self):
        for p in PRIMES:
            for names in range(11):
                for table in (numbers_for(p, names, 2 ** names), (0,) * 2 ** names, (p - 1,) * 2 ** names):
                    self.tells(True, is_table, p, table)

    def test_other_sizes(self):
        sizes = {2 ** names for names in range(11)}
        for size in range(1100):
            self.tells(size in sizes, is_table, 7, (1,) * size)
        self.tells(False, is_table, 7, (1,) * 2048)

    def test_what_is_none(self):
        for p in PRIMES:
            for value in wrong_tables(p):
                self.tells(False, is_table, p, value)

    def test_the_prime_matters(self):
        self.tells(False, is_table, 5, (5,))
        self.tells(True, is_table, 7, (5,))
        self.tells(False, is_table, 7, (0, 7))
        self.tells(True, is_table, 11, (0, 7))

    def test_wrong_primes(self):
        for p in wrong_primes():
            for value in ((1,), (), None, "table"):
                self.fails(BadPrime, {}, is_table, p, value)


class RowsTest(PointCase):
    def test_all_rows(self):
        for names in range(11):
            for index, row in enumerate(bits_rows(names)):
                self.tells(row, row_of, names, index)
                self.tells(index, index_of, row)

    def test_edges(self):
        self.tells((), row_of, 0, 0)
        self.tells(0, index_of, ())
        self.tells((1,) * 10, row_of, 10, 1023)
        self.tells(1023, index_of, (1,) * 10)
        self.tells((1,) + (0,) * 9, row_of, 10, 512)
        self.tells(512, index_of, (1,) + (0,) * 9)

    def test_wrong_names(self):
        for names in wrong_integers(0, 10):
            for index in (0, 1, None):
                self.fails(BadNumber, {}, row_of, names, index)

    def test_wrong_indexes(self):
        for names in range(11):
            for index in wrong_integers(0, 2 ** names - 1):
                self.fails(BadNumber, {}, row_of, names, index)

    def test_wrong_rows(self):
        for row in wrong_rows():
            self.fails(BadRow, {}, index_of, row)


class SpreadTest(PointCase):
    def test_at_rows_it_has_the_entries(self):
        for p in (5, BIG):
            for table in drawn_tables(p, 6):
                for entry, row in zip(table, bits_rows(len(table).bit_length() - 1)):
                    self.tells(entry, spread, p, table, row)

    def test_all_points_of_small_tables(self):
        for names in (0, 1, 2):
            for seed in range(8):
                table = numbers_for(5, seed + 20, 2 ** names)
                for point in product(range(5), repeat=names):
                    self.tells(plain_spread(5, table, point), spread, 5, table, point)

    def test_drawn_ones(self):
        for p in PRIMES:
            for table in drawn_tables(p, 5):
                names = len(table).bit_length() - 1
                for seed in range(3):
                    point = numbers_for(p, seed, names)
                    self.tells(plain_spread(p, table, point), spread, p, table, point)

    def test_ten_names(self):
        for p in (7, BIG):
            table, point = numbers_for(p, 1, 1024), numbers_for(p, 2, 10)
            self.tells(plain_spread(p, table, point), spread, p, table, point)

    def test_no_names(self):
        self.tells(3, spread, 7, (3,), ())
        self.tells(0, spread, 7, (0,), ())

    def test_points_of_other_lengths(self):
        for names in range(5):
            for length in range(26):
                if length != names:
                    self.fails(BadPoint, {}, spread, 7, (1,) * 2 ** names, (1,) * length)

    def test_wrong_inputs(self):
        for p in wrong_primes():
            self.fails(BadPrime, {}, spread, p, (1, 2), (1,))
        for p in (5, 7, BIG):
            for table in wrong_tables(p):
                for point in ((), (1,), (1, 2), None):
                    self.fails(BadTable, {}, spread, p, table, point)
            for point in wrong_points(p, 24):
                for table in ((1,), (1, 2), (1, 2, 3, 4)):
                    self.fails(BadPoint, {}, spread, p, table, point)


class WeightsTest(PointCase):
    def test_ordinary(self):
        for p in PRIMES:
            for names in range(7):
                for point in (numbers_for(p, names, names), (0,) * names, (1,) * names, (p - 1,) * names):
                    expected = tuple(plain_weight(p, row, point) for row in bits_rows(names))
                    self.tells(expected, weights, p, point)

    def test_edges(self):
        self.tells((1,), weights, 7, ())
        self.tells((0, 1), weights, 7, (1,))
        self.tells((1, 0), weights, 7, (0,))
        self.tells((2, 6), weights, 7, (6,))
        self.tells((0, 0, 1, 0), weights, 7, (1, 0))

    def test_ten_numbers_and_more(self):
        point = numbers_for(11, 3, 10)
        self.tells(tuple(plain_weight(11, row, point) for row in bits_rows(10)), weights, 11, point)
        for length in range(11, 27):
            self.fails(BadPoint, {}, weights, 11, (1,) * length)

    def test_wrong_inputs(self):
        for p in wrong_primes():
            self.fails(BadPrime, {}, weights, p, (1,))
        for p in (5, 7, BIG):
            for point in wrong_points(p, 10):
                self.fails(BadPoint, {}, weights, p, point)


class AlikeTest(PointCase):
    def test_rows(self):
        for names in range(4):
            for one in bits_rows(names):
                for other in bits_rows(names):
                    self.tells(1 if one == other else 0, alike, 7, one, other)

    def test_points(self):
        for p in PRIMES:
            for length in (0, 1, 2, 3, 10, 23, 24):
                one, other = numbers_for(p, length, length), numbers_for(p, length + 50, length)
                self.tells(plain_alike(p, one, other), alike, p, one, other)
        for one in product(range(5), repeat=2):
            for other in product(range(5), repeat=2):
                self.tells(plain_alike(5, one, other), alike, 5, one, other)

    def test_edges(self):
        self.tells(1, alike, 7, (), ())
        self.tells(5, alike, 7, (2,), (2,))
        self.tells(0, alike, 11, (3, 1), (4, 0))


class HeldTest(PointCase):
    def test_ordinary(self):
        for p in PRIMES:
            for table in drawn_tables(p, 6):
                if len(table) > 1:
                    names = len(table).bit_length() - 1
                    for number in (0, 1, 2, p - 1) + numbers_for(p, names, 2):
                        rows = bits_rows(names - 1)
                        expected = tuple(plain_spread(p, table, (number,) + row) for row in rows)
                        self.tells(expected, held, p, table, number)

    def test_rows_are_the_halves(self):
        self.tells((1, 2), held, 7, (1, 2, 3, 4), 0)
        self.tells((3, 4), held, 7, (1, 2, 3, 4), 1)
        self.tells((4,), held, 7, (1, 4), 1)

    def test_ten_names(self):
        table = numbers_for(7, 4, 1024)
        expected = tuple((low * 4 + high * 4) % 7 for low, high in zip(table[:512], table[512:]))
        self.tells(expected, held, 7, table, 4)

    def test_without_names(self):
        for entry in (0, 1, 6):
            self.fails(BadTable, {}, held, 7, (entry,), 1)
            self.fails(BadTable, {}, held, 7, (entry,), None)

    def test_wrong_inputs(self):
        for p in wrong_primes():
            self.fails(BadPrime, {}, held, p, (1, 2), 1)
        for p in (5, 7, BIG):
            for table in wrong_tables(p):
                self.fails(BadTable, {}, held, p, table, 1)
            for number in wrong_numbers(p):
                for table in ((0, 0), (1, 2), (1, 2, 3, 4)):
                    self.fails(BadNumber, {}, held, p, table, number)


class WholeTest(PointCase):
    def test_ordinary(self):
        for p in PRIMES:
            for table in drawn_tables(p, 10):
                self.tells(sum(table) % p, whole, p, table)
        self.tells(3, whole, 7, (1, 2, 3, 4))

    def test_wrong_inputs(self):
        for p in wrong_primes():
            self.fails(BadPrime, {}, whole, p, (1, 2))
        for p in (5, 7, BIG):
            for table in wrong_tables(p):
                self.fails(BadTable, {}, whole, p, table)


class SpreadNoughtsTest(PointCase):
    def test_no_names(self):
        for p in (5, 7, 99991, 100003, BIG):
            self.tells(1, spread_noughts, p, (0,))
            self.tells(0, spread_noughts, p, (1,))
            self.tells(0, spread_noughts, p, (p - 1,))

    def test_all_tables_of_one_name(self):
        for p in (5, 7):
            for table in product(range(p), repeat=2):
                self.tells(plain_noughts(p, table), spread_noughts, p, table)

    def test_tables_of_more_names(self):
        for p, names, many in ((5, 2, 40), (7, 2, 20), (5, 3, 10), (11, 2, 5), (7, 3, 3)):
            for seed in range(many):
                table = numbers_for(p, seed, 2 ** names)
                self.tells(plain_noughts(p, table), spread_noughts, p, table)
                sparse = tuple(entry if entry % 3 == 0 else 0 for entry in table)
                self.tells(plain_noughts(p, sparse), spread_noughts, p, sparse)

    def test_most_and_all(self):
        for p, names in ((5, 1), (5, 2), (5, 3), (5, 4), (7, 2), (7, 3), (11, 3)):
            size = 2 ** names
            self.tells(p ** names, spread_noughts, p, (0,) * size)
            for at in (0, size - 1, size // 2):
                table = (0,) * at + (3,) + (0,) * (size - at - 1)
                self.tells(p ** names - (p - 1) ** names, spread_noughts, p, table)
            self.tells(0, spread_noughts, p, (2,) * size)

    def test_as_many_points_as_may_be(self):
        self.tells(1, spread_noughts, 99991, (1, 3))
        self.tells(0, spread_noughts, 99991, (3, 3))
        self.tells(99991, spread_noughts, 99991, (0, 0))
        self.tells(2 * 313 - 1, spread_noughts, 313, (1, 0, 0, 0))
        self.tells(5 ** 7 - 4 ** 7, spread_noughts, 5, (1,) + (0,) * 127)

    def test_too_great(self):
        for p, names in ((5, 8), (5, 10), (7, 6), (11, 5), (13, 5), (17, 5), (47, 3), (317, 2), (100003, 1), (BIG, 1)):
            for entry in (0, 1):
                self.fails(TooGreat, {"most": 100000}, spread_noughts, p, (entry,) * 2 ** names)

    def test_wrong_inputs(self):
        for p in wrong_primes():
            self.fails(BadPrime, {}, spread_noughts, p, (1, 2))
        for p in (5, 7, BIG):
            for table in wrong_tables(p):
                self.fails(BadTable, {}, spread_noughts, p, table)
        self.fails(BadTable, {}, spread_noughts, 5, (1,) * 511 + (5,))
        self.fails(BadTable, {}, spread_noughts, 5, (1,) * 2048)


class BehindTest(PointCase):
    def test_rows(self):
        for names in range(5):
            rows = bits_rows(names)
            for index, one in enumerate(rows):
                for then, other in enumerate(rows):
                    self.tells(1 if then == index + 1 else 0, behind, 7, one, other)

    def test_points(self):
        for one in product(range(5), repeat=2):
            for other in product(range(5), repeat=2):
                self.tells(plain_behind(5, one, other), behind, 5, one, other)
        for p in PRIMES:
            for length in (0, 1, 2, 3, 4, 7):
                for seed in range(4):
                    one, other = numbers_for(p, seed, length), numbers_for(p, seed + 50, length)
                    self.tells(plain_behind(p, one, other), behind, p, one, other)

    def test_last_row_and_nought_row(self):
        for names in (1, 2, 3, 10, 24):
            last, nought = (1,) * names, (0,) * names
            self.tells(0, behind, 7, last, nought)
            self.tells(0, behind, 7, last, last)
            self.tells(0, behind, 7, nought, nought)
            for seed in range(4):
                self.tells(0, behind, 7, last, tuple(numbers_for(2, seed, names)))
                self.tells(0, behind, 7, tuple(numbers_for(2, seed, names)), nought)
            self.tells(1, behind, 7, (0,) * names, (0,) * (names - 1) + (1,))

    def test_without_numbers(self):
        for p in PRIMES:
            self.tells(0, behind, p, (), ())

    def test_long_rows(self):
        for length in (10, 23, 24):
            for turned in range(length):
                ahead = tuple(numbers_for(2, turned + 9, length - turned - 1))
                one, other = ahead + (0,) + (1,) * turned, ahead + (1,) + (0,) * turned
                self.tells(1, behind, 11, one, other)
                self.tells(0, behind, 11, other, one)
                self.tells(0, behind, 11, one, one)
                self.tells(0, behind, 11, one, tuple(1 - bit for bit in other))

    def test_degree_one_in_each_number(self):
        p = 101
        for length in (3, 11, 24):
            both = [list(numbers_for(p, length, length)), list(numbers_for(p, length + 9, length))]
            for side in (0, 1):
                for k in range(length):
                    told = []
                    for number in (0, 1, 2, 50, 100):
                        points = [list(point) for point in both]
                        points[side][k] = number
                        told.append(behind(p, tuple(points[0]), tuple(points[1])))
                    step = told[1] - told[0]
                    expected = [(told[0] + number * step) % p for number in (0, 1, 2, 50, 100)]
                    self.assertEqual(told, expected)


class TwoPointsWrongTest(PointCase):
    def test_unlike_lengths(self):
        for function in (alike, behind):
            for left in range(0, 25, 4):
                for right in range(0, 25, 3):
                    if left != right:
                        self.fails(UnlikePoints, {}, function, 7, (1,) * left, (0,) * right)
            self.fails(UnlikePoints, {}, function, 7, (1,) * 24, (1,) * 23)
            self.fails(UnlikePoints, {}, function, 7, (), (1,))
            self.fails(UnlikePoints, {}, function, 7, (1,), ())

    def test_wrong_ones(self):
        for function in (alike, behind):
            for p in wrong_primes():
                self.fails(BadPrime, {}, function, p, (1,), (1,))
                self.fails(BadPrime, {}, function, p, (1,), (1, 2))
            for p in (5, 7, BIG):
                for point in wrong_points(p, 24):
                    for other in ((), (1,), (1, 2)):
                        self.fails(BadPoint, {}, function, p, point, other)
                        self.fails(BadPoint, {}, function, p, other, point)
            self.fails(BadPoint, {}, function, 7, (1,) * 25, (1,) * 25)
            self.fails(BadPoint, {}, function, 7, (HUGE,), (1,))


class TablesTogetherTest(PointCase):
    def test_spread_is_entries_times_weights(self):
        p = 101
        table, point = numbers_for(p, 7, 64), numbers_for(p, 8, 6)
        told = sum(entry * weight for entry, weight in zip(table, weights(p, point))) % p
        self.tells(told, spread, p, table, point)
        self.tells(1, whole, p, weights(p, point))
        self.tells(told, spread, p, held(p, table, point[0]), point[1:])

    def test_weights_are_likenesses(self):
        point = numbers_for(7, 8, 5)
        for index, weight in enumerate(weights(7, point)):
            self.tells(weight, alike, 7, row_of(5, index), point)


if __name__ == "__main__":
    unittest.main()
