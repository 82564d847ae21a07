"""Points [1] and [21]: webs, their closed walks and triangles, and the sums that count these."""

import unittest
from itertools import combinations, product

from pointsenough.errors import BadLength, BadNumber, BadPrime, BadWeb
from pointsenough.rules import told_degrees
from pointsenough.sums import is_so, is_sum, judged, plain_line
from pointsenough.webs import ties_table, triangles, triangles_sum, walks, walks_sum
from tests.support import (
    BIG, HUGE, PointCase, any_values, bad_tuples, bits_rows, numbers_for, plain_rule, wrong_numbers, wrong_primes,
)

WEB = (4, ((0, 1), (0, 2), (1, 2)))
SIZES = (1, 2, 4, 8)


def all_ties(knots):
    return tuple(combinations(range(knots), 2))


def web_for(knots, seed):
    """A web that looks drawn."""
    pairs = all_ties(knots)
    return (knots, tuple(pair for pair, mark in zip(pairs, numbers_for(3, seed, len(pairs))) if mark > 0))


def drawn_webs():
    told = [(knots, ()) for knots in SIZES] + [(knots, all_ties(knots)) for knots in SIZES]
    told += [WEB, (2, ((0, 1),)), (8, ((0, 7),)), (8, ((6, 7),)), (4, ((2, 3),)), (8, ((0, 1), (0, 7), (1, 7), (3, 5)))]
    return told + [web_for(knots, seed) for knots in (4, 8) for seed in range(4)]


def plain_walks(web, length):
    """How many closed walks there are, by going through all tuples of knots."""
    knots, ties = web
    both = set(ties) | {(b, a) for a, b in ties}
    return sum(all((row[k], row[(k + 1) % length]) in both for k in range(length))
               for row in product(range(knots), repeat=length))


def plain_triangles(web):
    knots, ties = web
    return sum(all(pair in ties for pair in combinations(three, 2)) for three in combinations(range(knots), 3))


def wrong_webs():
    told = any_values() + bad_tuples() + [0, 1, 4, HUGE, (), (4,), (4, (), ()), [4, ()], {4: ()}, ((), 4), (4, 4)]
    told += [(knots, ()) for knots in any_values() + bad_tuples()]
    told += [(knots, ()) for knots in (-HUGE, -1, 0, 3, 5, 6, 7, 9, 16, HUGE, "4", [4], (4,))]
    told += [(4, ties) for ties in any_values() + [0, 1, [], {}, "01", [(0, 1)], {(0, 1): 1}, (0, 1), ((0, 1))] if ties != ()]
    bad = [(), (0,), (0, 1, 2), [0, 1], "01", {0: 1}, None, 1, (1, 0), (1, 1), (0, 0), (0, 4), (3, 4), (-1, 1), (0, True),
           (False, 1), (0, None), (None, 1), ("0", 1), (0, "1"), (0, (1,)), ((0,), 1), (0, [1]), (0, HUGE), (2, 1), (4, 5)]
    told += [(4, (tie,)) for tie in bad] + [(4, ((0, 1), tie)) for tie in bad] + [(4, (tie, (2, 3))) for tie in bad]
    told += [(4, ((0, 2), (0, 1))), (4, ((0, 1), (0, 1))), (4, ((1, 2), (0, 3))), (4, ((0, 1), (1, 2), (0, 3)))]
    told += [(4, ((0, 1), (0, 2), (0, 2))), (4, all_ties(4)[::-1]), (4, all_ties(4) + ((0, 1),)), (1, ((0, 1),))]
    return told + [(1, ((0, 0),)), (2, ((0, 2),)), (8, ((0, 8),)), (8, ((7, 8),)), (True, ()), (4, all_ties(5))]


def wrong_lengths():
    return any_values() + bad_tuples() + [-HUGE, -2, 0, 1, 4, 5, HUGE, (), (2,), (3,), "2", [3]]


class ExamplesTest(PointCase):
    def test_examples(self):
        self.tells((0, 1, 1, 0, 1, 0, 1, 0, 1, 1, 0, 0, 0, 0, 0, 0), ties_table, WEB)
        self.tells(6, walks, WEB, 2)
        self.tells(6, walks, WEB, 3)
        self.tells(1, triangles, WEB)
        tables = [("table", (0, 1, 1, 0), (("name", one), ("name", 1 - one))) for one in (0, 1)]
        self.tells((11, 2, ("times", tables[0], tables[1]), 2), walks_sum, 11, (2, ((0, 1),)), 2, 2)


class TiesTableTest(PointCase):
    def test_drawn_ones(self):
        for web in drawn_webs():
            knots, ties = web
            table = []
            for one in range(knots):
                for other in range(knots):
                    table.append(1 if (one, other) in ties or (other, one) in ties else 0)
            self.tells(tuple(table), ties_table, web)

    def test_edges(self):
        self.tells((0,), ties_table, (1, ()))
        self.tells((0,) * 4, ties_table, (2, ()))
        self.tells((0, 1, 1, 0), ties_table, (2, ((0, 1),)))
        self.tells((0,) * 64, ties_table, (8, ()))
        self.tells(tuple(0 if k % 9 == 0 else 1 for k in range(64)), ties_table, (8, all_ties(8)))


class CountsTest(PointCase):
    def test_drawn_ones(self):
        for web in drawn_webs():
            for length in (2, 3):
                self.tells(plain_walks(web, length), walks, web, length)
            self.tells(plain_triangles(web), triangles, web)
            self.assertEqual(walks(web, 3), 6 * triangles(web))
            self.assertEqual(walks(web, 2), 2 * len(web[1]))

    def test_all_webs_of_four_knots(self):
        for many in range(7):
            for ties in combinations(all_ties(4), many):
                self.tells(plain_triangles((4, ties)), triangles, (4, ties))

    def test_edges(self):
        self.tells(56, triangles, (8, all_ties(8)))
        self.tells(336, walks, (8, all_ties(8)), 3)
        self.tells(56, walks, (8, all_ties(8)), 2)
        self.tells(0, walks, (1, ()), 2)
        self.tells(0, walks, (1, ()), 3)


class SumsTest(PointCase):
    def test_names_and_rule(self):
        for knots, bits in ((1, 0), (2, 1), (4, 2), (8, 3)):
            web = web_for(knots, 3)
            table = ties_table(web)
            for length in (2, 3):
                told = walks_sum(101, web, length, 5)
                self.assertEqual((told[0], told[1], told[3]), (101, bits * length, 5))
                knot = [tuple(("name", k * bits + bit) for bit in range(bits)) for k in range(length)]
                ties = [("table", table, knot[k] + knot[(k + 1) % length]) for k in range(length)]
                rule = ("times", ties[0], ties[1])
                if length == 3:
                    rule = ("times", rule, ties[2])
                self.tells((101, bits * length, rule, 5), walks_sum, 101, web, length, 5)
                self.assertTrue(is_sum(told))
                self.assertEqual(told_degrees(told[1], rule), (2,) * (bits * length))

    def test_right_claims(self):
        for web in drawn_webs():
            for p in (5, 7, 401, BIG):
                for length in (2, 3):
                    number = walks(web, length)
                    self.assertTrue(is_so(walks_sum(p, web, length, number % p)))
                    self.assertFalse(is_so(walks_sum(p, web, length, (number + 1) % p)))
                number = triangles(web)
                self.assertTrue(is_so(triangles_sum(p, web, number % p)))
                self.assertFalse(is_so(triangles_sum(p, web, (number + 1) % p)))

    def test_rows_are_walks(self):
        web = web_for(4, 5)
        both = set(web[1]) | {(b, a) for a, b in web[1]}
        for length in (2, 3):
            _, many, rule, _ = walks_sum(11, web, length, 0)
            for row in bits_rows(many):
                knot = [2 * row[2 * k] + row[2 * k + 1] for k in range(length)]
                is_walk = all((knot[k], knot[(k + 1) % length]) in both for k in range(length))
                self.assertEqual(plain_rule(11, rule, row), 1 if is_walk else 0)

    def test_triangles_are_walks_times_six(self):
        for p in (5, 7, 11, BIG):
            for claim in (0, 1, 2, 3, 4, p - 1):
                for web in (WEB, (1, ()), (8, all_ties(8))):
                    expected = walks_sum(p, web, 3, 6 * claim % p)
                    self.tells(expected, triangles_sum, p, web, claim)

    def test_the_judge_hears_them(self):
        claimed = triangles_sum(101, (8, all_ties(8)), 56)
        draws = numbers_for(101, 4, 9)
        lines = tuple(plain_line(claimed, draws[:k]) for k in range(9))
        self.assertEqual(judged(claimed, lines, draws), ("passed",))
        wrong = triangles_sum(101, (8, all_ties(8)), 55)
        self.assertEqual(judged(wrong, lines, draws), ("caught", 0, "halves"))


class WrongInputsTest(PointCase):
    def test_webs(self):
        for web in wrong_webs():
            self.fails(BadWeb, {}, ties_table, web)
            self.fails(BadWeb, {}, walks, web, 2)
            self.fails(BadWeb, {}, triangles, web)
            self.fails(BadWeb, {}, walks_sum, 7, web, 2, 1)
            self.fails(BadWeb, {}, triangles_sum, 7, web, 1)

    def test_lengths(self):
        for length in wrong_lengths():
            self.fails(BadLength, {}, walks, WEB, length)
            self.fails(BadLength, {}, walks_sum, 7, WEB, length, 1)

    def test_primes_and_numbers(self):
        for p in wrong_primes():
            self.fails(BadPrime, {}, walks_sum, p, WEB, 2, 1)
            self.fails(BadPrime, {}, triangles_sum, p, WEB, 1)
        for p in (5, 7, BIG):
            for claim in wrong_numbers(p):
                self.fails(BadNumber, {}, walks_sum, p, WEB, 2, claim)
                self.fails(BadNumber, {}, triangles_sum, p, WEB, claim)


BAD_P = (None, True, "7", 9, 3, [7], HUGE)
BAD_WEB = (None, [4, ()], (4,), (3, ()), (4, ((1, 0),)), (4, [(0, 1)]), (4, ((0, 1), (0, 1))), {4: ()}, (True, ()))
BAD_LENGTH = (None, True, 1, 4, "2", (2,), [3])
BAD_NUMBER = (None, True, 7, -1, "1", (1,), [1], HUGE)
CALLS = (
    (ties_table, (WEB,), ((BAD_WEB, "BadWeb"),)),
    (triangles, (WEB,), ((BAD_WEB, "BadWeb"),)),
    (walks, (WEB, 3), ((BAD_WEB, "BadWeb"), (BAD_LENGTH, "BadLength"))),
    (walks_sum, (7, WEB, 2, 3), (
        (BAD_P, "BadPrime"), (BAD_WEB, "BadWeb"), (BAD_LENGTH, "BadLength"), (BAD_NUMBER, "BadNumber"))),
    (triangles_sum, (7, WEB, 3), ((BAD_P, "BadPrime"), (BAD_WEB, "BadWeb"), (BAD_NUMBER, "BadNumber"))),
)


class OrderTest(PointCase):
    def test_several_wrong_arguments(self):
        self.first_errors(CALLS)

    def test_nothing_is_left_behind(self):
        self.nothing_left_behind(CALLS)
        self.same_backward([(function, right) for function, right, _ in CALLS])


if __name__ == "__main__":
    unittest.main()
