"""Points [1] and [22]: products of tables, and the judge of claimed ones."""

import unittest
from fractions import Fraction
from itertools import product as rows_of

from pointsenough.errors import BadDraws, BadNumber, BadPoint, BadPrime, BadSizes, BadTable
from pointsenough.products import entry_sum, product, product_judged, product_loss
from pointsenough.sums import is_so, is_sum, judged, plain_line
from pointsenough.tables import spread
from tests.support import (
    BIG, HUGE, PointCase, any_values, bad_tuples, most_passes, numbers_for, plain_spread, wrong_draws, wrong_numbers,
    wrong_points, wrong_primes, wrong_tables,
)

PRIMES = (5, 7, 11, 10007, BIG)
ONE, OTHER = (1, 2, 3, 4), (5, 6, 0, 1)
SIZES = (1, 1, 1)
MANY_SIZES = (
    (0, 0, 0), (3, 0, 0), (0, 3, 0), (0, 0, 3), (3, 3, 0), (3, 0, 3), (0, 3, 3), (3, 3, 3), (1, 2, 3), (2, 1, 0), (1, 1, 1),
    (2, 0, 1), (0, 1, 0), (1, 0, 0), (0, 0, 1), (2, 2, 2), (3, 1, 2))


def factors_for(p, sizes, seed):
    a, b, c = sizes
    return numbers_for(p, seed, 2 ** (a + b)), numbers_for(p, seed + 50, 2 ** (b + c))


def plain_product(p, one, other, sizes):
    """The product, by rows and columns."""
    a, b, c = (2 ** size for size in sizes)
    left = [one[row * b:(row + 1) * b] for row in range(a)]
    right = [other[row * c:(row + 1) * c] for row in range(b)]
    return tuple(sum(x * right[k][column] for k, x in enumerate(row)) % p for row in left for column in range(c))


def plain_lines(p, one, other, sizes, draws):
    """The plain lines at the point drawn."""
    a, b, c = sizes
    claimed = entry_sum(p, one, other, sizes, draws[:a + c], 0)
    return tuple(plain_line(claimed, draws[a + c:a + c + k]) for k in range(b))


def changed(table, at, by, p):
    return table[:at] + ((table[at] + by) % p,) + table[at + 1:]


def wrong_sizes():
    told = any_values() + bad_tuples() + [0, 1, HUGE, (), (1,), (1, 1), (1, 1, 1, 1), [1, 1, 1], {0: 1, 1: 1, 2: 1}, "111"]
    for wrong in any_values() + [-HUGE, -1, 4, 5, HUGE, (1,), "1", True, False]:
        told += [(wrong, 1, 1), (1, wrong, 1), (1, 1, wrong)]
    return told + [((1, 1, 1),), (4, 0, 0), (0, 4, 0), (0, 0, 4)]


class ExamplesTest(PointCase):
    def test_examples(self):
        self.tells((5, 1, 1, 1), product, 7, ONE, OTHER, SIZES)
        self.tells((163, 343), product_loss, 7, SIZES)
        rule = ("times", ("table", ONE, (("number", 0), ("name", 0))), ("table", OTHER, (("name", 0), ("number", 1))))
        self.tells((7, 1, rule, 1), entry_sum, 7, ONE, OTHER, SIZES, (0, 1), 1)


class ProductTest(PointCase):
    def test_drawn_ones(self):
        for p in PRIMES:
            for sizes in MANY_SIZES:
                one, other = factors_for(p, sizes, p % 13)
                self.tells(plain_product(p, one, other, sizes), product, p, one, other, sizes)

    def test_all_sizes(self):
        for sizes in rows_of(range(4), repeat=3):
            one, other = factors_for(11, sizes, 2)
            told = product(11, one, other, sizes)
            self.assertEqual(told, plain_product(11, one, other, sizes))
            self.assertEqual(len(told), 2 ** (sizes[0] + sizes[2]))

    def test_edges(self):
        self.tells((6,), product, 7, (2,), (3,), (0, 0, 0))
        self.tells((4, 6), product, 11, (2,), (2, 3), (0, 0, 1))
        self.tells((4, 6), product, 11, (2, 3), (2,), (1, 0, 0))
        self.tells((1,), product, 11, (1, 2), (5, 9), (0, 1, 0))
        one = tuple(1 if row == column else 0 for row in range(8) for column in range(8))
        table = numbers_for(BIG, 3, 64)
        self.tells(table, product, BIG, one, table, (3, 3, 3))
        self.tells(table, product, BIG, table, one, (3, 3, 3))


class EntrySumTest(PointCase):
    def test_rules(self):
        for sizes in MANY_SIZES:
            a, b, c = sizes
            one, other = factors_for(101, sizes, 1)
            point = numbers_for(101, 7, a + c)
            numbers = tuple(("number", number) for number in point)
            names = tuple(("name", name) for name in range(b))
            rule = ("times", ("table", one, numbers[:a] + names), ("table", other, names + numbers[a:]))
            self.tells((101, b, rule, 9), entry_sum, 101, one, other, sizes, point, 9)
            self.assertTrue(is_sum(entry_sum(101, one, other, sizes, point, 9)))

    def test_they_claim_the_products_spread(self):
        for p in PRIMES:
            for sizes in MANY_SIZES:
                one, other = factors_for(p, sizes, 4)
                point = numbers_for(p, 8, sizes[0] + sizes[2])
                claim = plain_spread(p, plain_product(p, one, other, sizes), point)
                self.assertTrue(is_so(entry_sum(p, one, other, sizes, point, claim)))
                self.assertFalse(is_so(entry_sum(p, one, other, sizes, point, (claim + 1) % p)))


class JudgedTest(PointCase):
    def test_right_products_pass(self):
        for p in PRIMES:
            for sizes in MANY_SIZES:
                one, other = factors_for(p, sizes, 5)
                for seed in range(3):
                    draws = numbers_for(p, seed, sum(sizes))
                    claimed = plain_product(p, one, other, sizes)
                    lines = plain_lines(p, one, other, sizes, draws)
                    self.tells(("passed",), product_judged, p, one, other, sizes, claimed, draws, lines)
                    self.tells(("passed",), product_judged, p, one, other, sizes, claimed, draws, list(lines))

    def test_right_products_pass_at_all_draws(self):
        claimed = plain_product(5, ONE, (0, 1, 3, 1), SIZES)
        for draws in rows_of(range(5), repeat=3):
            lines = plain_lines(5, ONE, (0, 1, 3, 1), SIZES, draws)
            self.assertEqual(product_judged(5, ONE, (0, 1, 3, 1), SIZES, claimed, draws, lines), ("passed",))

    def test_as_the_sum_at_the_point_is_judged(self):
        for sizes in ((1, 1, 1), (2, 1, 0), (0, 2, 1), (1, 0, 1), (0, 0, 0), (2, 2, 2)):
            one, other = factors_for(7, sizes, 6)
            a, b, c = sizes
            right = plain_product(7, one, other, sizes)
            for claimed in (right, changed(right, 0, 1, 7), changed(right, len(right) - 1, 3, 7), (0,) * len(right)):
                for seed in range(6):
                    draws = numbers_for(7, seed, sum(sizes))
                    entry = entry_sum(7, one, other, sizes, draws[:a + c], spread(7, claimed, draws[:a + c]))
                    lines = plain_lines(7, one, other, sizes, draws)
                    for told in (lines, lines + ((),), lines[:-1], None, ((0,),) * b, ((1, 2, 3, 4),) * b, (), ((),) * b):
                        expected = judged(entry, told, draws[a + c:])
                        self.tells(expected, product_judged, 7, one, other, sizes, claimed, draws, told)

    def test_wrong_at_one_entry_and_at_many(self):
        p = 10007
        one, other = factors_for(p, (2, 2, 2), 7)
        right = plain_product(p, one, other, (2, 2, 2))
        draws = numbers_for(p, 11, 6)
        lines = plain_lines(p, one, other, (2, 2, 2), draws)
        for at in range(16):
            wrong = changed(right, at, 1, p)
            self.tells(("caught", 0, "halves"), product_judged, p, one, other, (2, 2, 2), wrong, draws, lines)
        wrong = tuple((number + 5) % p for number in right)
        self.tells(("caught", 0, "halves"), product_judged, p, one, other, (2, 2, 2), wrong, draws, lines)
        self.tells(("caught", 0, "end"), product_judged, 7, (2,), (3,), (0, 0, 0), (5,), (), ())
        self.tells(("caught", 0, "end"), product_judged, 7, (2, 1), (3,), (1, 0, 0), (6, 2), (3,), ())
        # At the row of an entry that is right the wrong one isn't seen.
        self.tells(("passed",), product_judged, 7, (2, 1), (3,), (1, 0, 0), (6, 2), (0,), ())

    def test_each_word(self):
        claimed = plain_product(7, ONE, OTHER, SIZES)
        draws = (2, 3, 4)
        line = plain_lines(7, ONE, OTHER, SIZES, draws)[0]
        handed = (7, ONE, OTHER, SIZES, claimed, draws)
        self.tells(("passed",), product_judged, *handed, (line,))
        self.tells(("caught", 0, "line"), product_judged, *handed, None)
        self.tells(("caught", 0, "line"), product_judged, *handed, ())
        self.tells(("caught", 0, "line"), product_judged, *handed, ((0,),))
        self.tells(("caught", 0, "degree"), product_judged, *handed, ((1, 2, 3, 4),))
        self.tells(("caught", 0, "halves"), product_judged, *handed, ((line[0] + 1,) + line[1:],))
        self.tells(("caught", 1, "line"), product_judged, *handed, (line, line))
        wrong = (7, ONE, OTHER, SIZES, changed(claimed, 1, 1, 7), draws)
        told = spread(7, wrong[4], draws[:2]) * 4 % 7
        self.tells(("caught", 1, "end"), product_judged, *wrong, ((told,),))

    def test_no_more_draws_pass_than_the_loss(self):
        for one, other, sizes in (((1, 2), (3,), (1, 0, 0)), ((1, 2), (3, 4), (0, 1, 0)), ((1, 2, 0, 1), (3, 4), (1, 1, 0)),
                                  ((2, 3), (1, 4, 0, 2), (0, 1, 1)), ((1, 2), (3, 4), (1, 0, 1))):
            right = plain_product(5, one, other, sizes)
            top, bottom = product_loss(5, sizes)
            for claimed in rows_of(range(5), repeat=len(right)) if len(right) < 3 else [
                    changed(right, 0, 1, 5), changed(right, 3, 2, 5), (0, 1, 0, 0), tuple((x + 1) % 5 for x in right)]:
                first = sizes[0] + sizes[2]

                def judge(lines, draws):
                    return product_judged(5, one, other, sizes, claimed, draws, lines)
                passes = most_passes(5, (2,) * sizes[1], first, judge)
                if claimed == right:
                    self.assertEqual(passes, 5 ** sum(sizes))
                else:
                    self.assertLessEqual(passes * bottom, top * 5 ** sum(sizes))


class LossTest(PointCase):
    def test_all_sizes(self):
        for p in PRIMES:
            for sizes in rows_of(range(4), repeat=3):
                kept = (1 - Fraction(1, p)) ** (sizes[0] + sizes[2]) * (1 - Fraction(2, p)) ** sizes[1]
                self.tells(((1 - kept).numerator, (1 - kept).denominator), product_loss, p, sizes)
        self.tells((0, 1), product_loss, 5, (0, 0, 0))
        self.tells((2, 5), product_loss, 5, (0, 1, 0))
        self.tells((1, 5), product_loss, 5, (1, 0, 0))
        self.tells((1, 5), product_loss, 5, (0, 0, 1))


class WrongInputsTest(PointCase):
    def of_all_three(self, kind, p, one, other, sizes):
        self.fails(kind, {}, product, p, one, other, sizes)
        self.fails(kind, {}, entry_sum, p, one, other, sizes, (0, 1), 1)
        self.fails(kind, {}, product_judged, p, one, other, sizes, (1, 2, 3, 4), (1, 2, 3), ())

    def test_primes(self):
        for p in wrong_primes():
            self.of_all_three(BadPrime, p, ONE, OTHER, SIZES)
            self.fails(BadPrime, {}, product_loss, p, SIZES)

    def test_tables(self):
        for table in wrong_tables(7):
            self.of_all_three(BadTable, 7, table, OTHER, SIZES)
            self.of_all_three(BadTable, 7, ONE, table, SIZES)
            self.fails(BadTable, {}, product_judged, 7, ONE, OTHER, SIZES, table, (1, 2, 3), ())

    def test_sizes(self):
        for sizes in wrong_sizes():
            self.of_all_three(BadSizes, 7, ONE, OTHER, sizes)
            self.fails(BadSizes, {}, product_loss, 7, sizes)

    def test_tables_of_other_sizes(self):
        for length in (1, 2, 8, 16, 64, 128, 1024):
            self.of_all_three(BadTable, 7, (1,) * length, OTHER, SIZES)
            self.of_all_three(BadTable, 7, ONE, (1,) * length, SIZES)
            self.fails(BadTable, {}, product_judged, 7, ONE, OTHER, SIZES, (1,) * length, (1, 2, 3), ())
        for sizes in ((2, 0, 1), (1, 0, 2), (0, 0, 0), (1, 1, 2), (2, 1, 1), (3, 3, 3), (0, 1, 1)):
            self.of_all_three(BadTable, 7, ONE, OTHER, sizes)
        # Of the right length each, but not as the sizes tell.
        self.of_all_three(BadTable, 7, (1,) * 4, (1,) * 8, (2, 1, 1))

    def test_points_and_claims(self):
        for point in wrong_points(7, 24) + [(), (1,), (1, 2, 3), (0,) * 4]:
            if point != (1, 2):
                self.fails(BadPoint, {}, entry_sum, 7, ONE, OTHER, SIZES, point, 1)
        for claim in wrong_numbers(7):
            self.fails(BadNumber, {}, entry_sum, 7, ONE, OTHER, SIZES, (0, 1), claim)

    def test_draws(self):
        for draws in wrong_draws(7, 3):
            self.fails(BadDraws, {}, product_judged, 7, ONE, OTHER, SIZES, (1, 2, 3, 4), draws, ())
        for draws in wrong_draws(7, 0):
            self.fails(BadDraws, {}, product_judged, 7, (1,), (2,), (0, 0, 0), (2,), draws, ())


BAD_P = (None, True, "7", 9, 3, [7], HUGE)
BAD_TABLE = (None, (), (1, 2, 3), (7,) * 4, [1, 2, 3, 4], (False, 1, 2, 3), {0: 1}, 1)
BAD_SIZES = (None, (1, 1), [1, 1, 1], (1, 1, 4), (1, True, 1), "111", (-1, 1, 1), 1)
OTHER_TABLE = BAD_TABLE + ((1, 2), (1,) * 8)
BAD_POINT = (None, (1,), (1, 7), [1, 2], (1, True), "12", 2, (1, 2, 3))
BAD_NUMBER = (None, True, 7, -1, "1", (1,), [1], HUGE)
BAD_DRAWS = (None, (1, 2), (1, 2, 7), [1, 2, 3], (1, True, 2), "123", 3, (1, 2, 3, 4))
BAD_LINES = (None, ((0,),), [(1,)], {0: (1,)}, "line", 1, True)
FACTORS = ((BAD_P, "BadPrime"), (BAD_TABLE, "BadTable"), (BAD_TABLE, "BadTable"), (BAD_SIZES, "BadSizes"))
CALLS = (
    (product, (7, ONE, OTHER, SIZES), FACTORS),
    (entry_sum, (7, ONE, OTHER, SIZES, (0, 1), 1), FACTORS + ((BAD_POINT, "BadPoint"), (BAD_NUMBER, "BadNumber"))),
    (product_judged, (7, ONE, OTHER, SIZES, (5, 1, 1, 1), (1, 2, 3), ((1,),)), FACTORS + (
        (OTHER_TABLE, "BadTable"), (BAD_DRAWS, "BadDraws"), (BAD_LINES, None))),
    (product_loss, (7, SIZES), ((BAD_P, "BadPrime"), (BAD_SIZES, "BadSizes"))),
)


class OrderTest(PointCase):
    def test_several_wrong_arguments(self):
        self.first_errors(CALLS)

    def test_sizes_between_the_errors_of_tables(self):
        for handed in ((), ((0, 1), 1), ((1, 2, 3, 4), (1, 2, 3), ())):
            function = {0: product, 2: entry_sum, 3: product_judged}[len(handed)]
            self.fails(BadTable, {}, function, 7, (1, 2, 3), (1, 2), (1, 1, 4), *handed)
            self.fails(BadTable, {}, function, 7, (1, 2), (1, 2, 3), (1, 1, 4), *handed)
            self.fails(BadSizes, {}, function, 7, (1, 2), (1, 2), (1, 1, 4), *handed)
            self.fails(BadTable, {}, function, 7, (1, 2), (1, 2), (1, 1, 1), *handed)
        self.fails(BadTable, {}, entry_sum, 7, (1, 2), OTHER, SIZES, (1,), 7)
        self.fails(BadPoint, {}, entry_sum, 7, ONE, OTHER, SIZES, (1,), 7)
        self.fails(BadSizes, {}, product_judged, 7, ONE, OTHER, (1, 1), (1, 2, 3), (1,), ())
        self.fails(BadTable, {}, product_judged, 7, (1, 2), OTHER, SIZES, (1, 2, 3), (1,), ())
        self.fails(BadTable, {}, product_judged, 7, ONE, OTHER, SIZES, (1, 2), (1,), ())
        self.fails(BadDraws, {}, product_judged, 7, ONE, OTHER, SIZES, (1, 2, 3, 4), (1,), ())

    def test_nothing_is_left_behind(self):
        self.nothing_left_behind(CALLS)
        self.same_backward([(function, right) for function, right, _ in CALLS])


if __name__ == "__main__":
    unittest.main()
