"""Points [1], [29] and [30]: sums joined into one, and sums that are right where a rule is 0 at all rows."""

import unittest
from fractions import Fraction
from itertools import product

from pointsenough.errors import BadDraws, BadMany, BadPoint, BadPrime, BadRule, BadSum, BadSums
from pointsenough.joins import joined, joined_loss, nought_loss, nought_sum
from pointsenough.rules import row_values
from pointsenough.sums import is_so, is_sum, judged, loss, plain_line
from pointsenough.tables import spread_noughts
from tests.support import (
    BIG, HUGE, NUMBER, PointCase, any_values, bad_tuples, deep_rule, most_passes, numbers_for, plain_degrees,
    plain_rows_sum, plain_rule, plain_spread, plus_tree, power_rule, rule_for, wrong_draws, wrong_many, wrong_points,
    wrong_primes, wrong_rules, wrong_sums,
)

PRIMES = (5, 7, 11, 10007, BIG)
TWO = ((7, 0, ("number", 2), 2), (7, 0, ("number", 3), 1))
RULE = ("times", ("name", 0), ("plus", ("name", 0), ("table", (1, 2), (("name", 1),))))


def sums_for(p, names, many, seed, by=0):
    """So many sums that look drawn, the last one wrong by a number."""
    told = []
    for k in range(many):
        rule = rule_for(p, names, seed * 11 + k, 3)
        claim = plain_rows_sum(p, names, rule, ())
        told.append((p, names, rule, (claim + (by if k == many - 1 else 0)) % p))
    return tuple(told)


def plain_joined(p, sums, draws):
    """The joined sum, by the words of the document."""
    rule, claim = None, 0
    for (_, _, part, number), draw in zip(sums, draws):
        weighed = ("times", ("number", draw), part)
        rule = weighed if rule is None else ("plus", rule, weighed)
        claim += draw * number
    return (p, sums[0][1], rule, claim % p)


def wrong_tuples_of_sums():
    one = (7, 1, ("name", 0), 1)
    told = any_values() + bad_tuples() + [0, 1, HUGE, (), one, [one], {0: one}, (one,) * 9, (one,) * 20, [one, one]]
    told += [(one, wrong) for wrong in wrong_sums()] + [(wrong,) for wrong in wrong_sums()[::3]]
    told += [(wrong, one) for wrong in wrong_sums()[::5]]
    told += [((11, 1, ("name", 0), 1),), (one, (11, 1, ("name", 0), 1)), ((5, 1, ("name", 0), 1), one)]
    told += [(one, (7, 0, NUMBER, 1)), (one, (7, 2, ("name", 0), 1)), ((7, 2, ("name", 0), 1), one), (one, one, (7, 0, NUMBER, 1))]
    return told


class ExamplesTest(PointCase):
    def test_examples(self):
        rule = ("plus", ("times", ("number", 1), ("number", 2)), ("times", ("number", 4), ("number", 3)))
        self.tells((7, 0, rule, 6), joined, 7, TWO, (1, 4))
        part = ("plus", ("times", ("number", 3), ("name", 0)), ("times", ("number", 5), ("minus", NUMBER, ("name", 0))))
        self.assertEqual(nought_sum(7, 1, ("name", 0), (3,))[2][1], part)
        self.tells((7, 1, ("times", part, ("name", 0)), 0), nought_sum, 7, 1, ("name", 0), (3,))
        self.tells((19, 49), nought_loss, 7, 1, ("name", 0))


class JoinedTest(PointCase):
    def test_drawn_ones(self):
        for p in PRIMES:
            for names in (0, 1, 3, 10):
                for many in (1, 2, 3, 7, 8):
                    sums = sums_for(p, min(names, 3), many, many)
                    sums = tuple((p, names, rule, claim * 2 ** (names - min(names, 3)) % p) for _, _, rule, claim in sums)
                    draws = numbers_for(p, many, many)
                    told = self.tells(plain_joined(p, sums, draws), joined, p, sums, draws)
                    self.assertTrue(is_sum(told))
                    self.assertTrue(is_so(told))

    def test_one_sum(self):
        self.tells((7, 1, ("times", ("number", 3), ("name", 0)), 6), joined, 7, ((7, 1, ("name", 0), 2),), (3,))

    def test_right_for_one_part_in_p_of_all_draws(self):
        for p in (5, 7):
            for many in (1, 2, 3):
                for by in range(1, p):
                    sums = sums_for(p, 1, many, by, by)
                    right = sum(is_so(joined(p, sums, draws)) for draws in product(range(p), repeat=many))
                    self.assertEqual(right, p ** (many - 1))
        sums = tuple((5, 1, rule, (claim + k) % 5) for k, (_, _, rule, claim) in enumerate(sums_for(5, 1, 3, 4)))
        right = sum(is_so(joined(5, sums, draws)) for draws in product(range(5), repeat=3))
        self.assertEqual(right, 25)

    def test_right_sums_at_all_draws(self):
        sums = sums_for(5, 2, 3, 6)
        for draws in product(range(5), repeat=3):
            self.assertTrue(is_so(joined(5, sums, draws)))

    def test_rules_that_are_too_large(self):
        large = (7, 1, plus_tree([("name", 0)] * 499), 0)
        # Two rules of 997 tuples each, two numbers, two times and one plus make 1999.
        self.assertTrue(is_sum(joined(7, (large,) * 2, (1, 2))))
        larger = (7, 1, plus_tree([("name", 0)] * 500), 0)
        self.fails(BadSum, {}, joined, 7, (large, larger), (1, 2))
        self.fails(BadSum, {}, joined, 7, (larger, larger), (0, 0))
        self.fails(BadSum, {}, joined, 7, (large,) * 8, (1,) * 8)
        largest = (7, 1, plus_tree([("name", 0)] * 999), 0)
        self.assertTrue(is_sum(joined(7, (largest,), (1,))))
        self.fails(BadSum, {}, joined, 7, ((7, 1, plus_tree([("name", 0)] * 1000), 0),), (1,))

    def test_rules_that_are_too_deep(self):
        deep = (7, 1, deep_rule(399, ("name", 0)), 0)
        self.assertTrue(is_sum(joined(7, (deep,), (1,))))
        self.fails(BadSum, {}, joined, 7, (deep, TWO[0][:1] + (1, NUMBER, 1)), (1, 2))
        self.fails(BadSum, {}, joined, 7, ((7, 1, deep_rule(400, ("name", 0)), 0),), (1,))

    def test_wrong_inputs(self):
        for p in wrong_primes():
            self.fails(BadPrime, {}, joined, p, TWO, (1, 4))
            self.fails(BadPrime, {}, joined_loss, p, TWO)
        for sums in wrong_tuples_of_sums():
            self.fails(BadSums, {}, joined, 7, sums, (1,))
            self.fails(BadSums, {}, joined_loss, 7, sums)
        self.fails(BadSums, {}, joined, 5, TWO, (1, 4))
        for many in (1, 2, 8):
            for draws in wrong_draws(7, many):
                self.fails(BadDraws, {}, joined, 7, (TWO * 4)[:many], draws)


class JoinedLossTest(PointCase):
    def test_drawn_ones(self):
        for p in PRIMES:
            for names in range(4):
                for many in (1, 2, 8):
                    sums = sums_for(p, names, many, many)
                    degrees = [plain_degrees(names, one[2]) for one in sums]
                    kept = 1 - Fraction(1, p)
                    for name in range(names):
                        kept *= 1 - Fraction(min(max(degree[name] for degree in degrees), p - 1), p)
                    self.tells(((1 - kept).numerator, (1 - kept).denominator), joined_loss, p, sums)

    def test_edges(self):
        self.tells((1, 7), joined_loss, 7, TWO)
        self.tells((49 - 6 * 1, 49), joined_loss, 7, ((7, 1, power_rule(30), 1), (7, 1, NUMBER, 1)))
        self.tells((49 - 6 * 4, 49), joined_loss, 7, ((7, 1, power_rule(2), 1), (7, 1, power_rule(3), 1)))
        largest = (7, 1, plus_tree([("name", 0)] * 1000), 0)
        self.tells((13, 49), joined_loss, 7, (largest,) * 8)

    def test_no_more_draws_pass_than_the_loss(self):
        for rules in ((("name", 0), NUMBER), (("name", 0), power_rule(2)), (("number", 3), ("number", 2))):
            right = tuple((5, 1, rule, plain_rows_sum(5, 1, rule, ())) for rule in rules)
            top, bottom = joined_loss(5, right)
            for by in range(1, 5):
                wrong = (right[0], right[1][:3] + ((right[1][3] + by) % 5,))
                degree = max(plain_degrees(1, rule)[0] for rule in rules)
                passes = 0
                for drawn in product(range(5), repeat=2):
                    claimed = joined(5, wrong, drawn)

                    def judge(lines, draws):
                        return judged(claimed, lines, draws)
                    passes += most_passes(5, (degree,), 0, judge)
                self.assertLessEqual(passes * bottom, top * 125)
                self.assertEqual(passes * bottom, top * 125)


def plain_nought_sum(p, many, rule, point):
    weighed = None
    for name, z in enumerate(point):
        against = ("minus", ("number", 1), ("name", name))
        part = ("plus", ("times", ("number", z), ("name", name)), ("times", ("number", (1 - z) % p), against))
        weighed = part if weighed is None else ("times", weighed, part)
    return (p, many, ("times", weighed or ("number", 1), rule), 0)


class NoughtSumTest(PointCase):
    def test_drawn_ones(self):
        for p in PRIMES:
            for many in range(6):
                for seed in range(4):
                    rule = rule_for(p, many, seed, 3)
                    point = numbers_for(p, seed, many)
                    told = self.tells(plain_nought_sum(p, many, rule, point), nought_sum, p, many, rule, point)
                    self.assertTrue(is_sum(told))
                    self.assertEqual(is_so(told), plain_spread(p, row_values(p, many, rule), point) == 0)

    def test_right_at_just_so_many_points(self):
        rules = [(5, 1, ("name", 0)), (5, 2, ("times", ("name", 0), ("name", 1))), (5, 2, RULE), (7, 2, RULE), (5, 2, NUMBER)]
        rules += [(5, 3, rule_for(5, 3, seed, 3)) for seed in range(4)]
        rules += [(5, 2, ("times", ("name", 0), ("minus", ("name", 0), NUMBER))), (5, 0, NUMBER), (5, 0, ("number", 0))]
        for p, many, rule in rules:
            right = sum(is_so(nought_sum(p, many, rule, point)) for point in product(range(p), repeat=many))
            values = row_values(p, many, rule)
            self.assertEqual(right, spread_noughts(p, values))
            self.assertEqual(right == p ** many, values == (0,) * 2 ** many)

    def test_no_names_and_ten(self):
        self.tells((7, 0, ("times", NUMBER, ("number", 3)), 0), nought_sum, 7, 0, ("number", 3), ())
        point = numbers_for(BIG, 3, 10)
        told = nought_sum(BIG, 10, ("name", 9), point)
        self.assertEqual(told, plain_nought_sum(BIG, 10, ("name", 9), point))
        self.assertEqual(plain_rule(BIG, told[2], (1,) * 10), plain_rule(BIG, told[2][1], (1,) * 10))
        self.assertFalse(is_so(told))
        self.assertTrue(is_so(nought_sum(BIG, 10, ("minus", ("name", 9), ("name", 9)), point)))

    def test_told_degrees(self):
        self.assertTrue(is_sum(nought_sum(7, 1, power_rule(29), (3,))))
        self.fails(BadSum, {}, nought_sum, 7, 1, power_rule(30), (3,))
        self.fails(BadSum, {}, nought_sum, 7, 1, power_rule(31), (3,))
        self.fails(BadSum, {}, nought_sum, 7, 2, power_rule(30), (3, 4))
        self.assertTrue(is_sum(nought_sum(7, 2, ("times", power_rule(29), ("name", 1)), (3, 4))))

    def test_rules_that_are_too_large_or_deep(self):
        self.assertTrue(is_sum(nought_sum(7, 1, plus_tree([("name", 0)] * 995), (3,))))
        self.fails(BadSum, {}, nought_sum, 7, 1, plus_tree([("name", 0)] * 996), (3,))
        self.assertTrue(is_sum(nought_sum(7, 1, deep_rule(399, ("name", 0)), (3,))))
        self.fails(BadSum, {}, nought_sum, 7, 1, deep_rule(400, ("name", 0)), (3,))

    def test_wrong_inputs(self):
        for p in wrong_primes():
            self.fails(BadPrime, {}, nought_sum, p, 1, ("name", 0), (3,))
            self.fails(BadPrime, {}, nought_loss, p, 1, ("name", 0))
        for many in wrong_many(10):
            self.fails(BadMany, {}, nought_sum, 7, many, NUMBER, (3,))
            self.fails(BadMany, {}, nought_loss, 7, many, NUMBER)
        for many in (0, 2, 10):
            for rule in wrong_rules(7, many):
                self.fails(BadRule, {}, nought_sum, 7, many, rule, (3,) * many)
                self.fails(BadRule, {}, nought_loss, 7, many, rule)
        for point in wrong_points(7, 24) + [(), (1,), (1, 2, 3), (1,) * 10]:
            if point != (1, 2):
                self.fails(BadPoint, {}, nought_sum, 7, 2, RULE, point)


class NoughtLossTest(PointCase):
    def test_drawn_ones(self):
        for p in PRIMES:
            for many in range(6):
                for seed in range(4):
                    rule = rule_for(p, many, seed, 3)
                    kept = (1 - Fraction(1, p)) ** many
                    for degree in plain_degrees(many, rule):
                        kept *= 1 - Fraction(min(degree + 1, p - 1), p)
                    self.tells(((1 - kept).numerator, (1 - kept).denominator), nought_loss, p, many, rule)
                    claimed = nought_sum(p, many, rule, (0,) * many)
                    top, bottom = loss(claimed)
                    self.assertEqual(kept, (1 - Fraction(1, p)) ** many * (1 - Fraction(top, bottom)))

    def test_edges(self):
        self.tells((0, 1), nought_loss, 5, 0, NUMBER)
        self.tells((25 - 4, 25), nought_loss, 5, 1, power_rule(29))
        self.tells((25 - 4, 25), nought_loss, 5, 1, power_rule(3))
        self.tells((25 - 8, 25), nought_loss, 5, 1, power_rule(2))
        self.fails(BadSum, {}, nought_loss, 5, 1, power_rule(30))

    def test_no_more_draws_pass_than_the_loss(self):
        for rule in (("name", 0), NUMBER, ("table", (2, 3), (("name", 0),)), power_rule(2)):
            degree = plain_degrees(1, rule)[0] + 1
            passes = 0
            for z in range(5):
                claimed = nought_sum(5, 1, rule, (z,))
                passes += most_passes(5, (degree,), 0, lambda lines, draws: judged(claimed, lines, draws))
            top, bottom = nought_loss(5, 1, rule)
            self.assertLessEqual(passes * bottom, top * 25)

    def test_right_ones_pass(self):
        rule = ("times", ("name", 0), ("minus", ("name", 0), NUMBER))
        for z in range(7):
            claimed = nought_sum(7, 1, rule, (z,))
            for draw in range(7):
                self.assertEqual(judged(claimed, (plain_line(claimed, ()),), (draw,)), ("passed",))


BAD_P = (None, True, "7", 9, 3, [7], HUGE)
BAD_SUMS = (None, (), [TWO[0]], (TWO[0],) * 9, (TWO[0], (7, 1, NUMBER, 1)), (TWO[0], (11, 0, NUMBER, 1)), TWO[0], 5, {0: 1})
BAD_DRAWS = (None, (1,), (1, 2, 3), (1, 7), [1, 2], (1, True), "12", 2)
BAD_MANY = (None, True, -1, 11, 24, "2", (2,), [2], HUGE)
BAD_RULE = (None, (), ("number", 7), ("name", 2), ["number", 1], ("name", True), ("table", (1, 2), ()), 3)
BAD_POINT = (None, (1,), (1, 7), [1, 2], (True, 1), "12", (1, 2, 3), 1)
CALLS = (
    (joined, (7, TWO, (1, 4)), ((BAD_P, "BadPrime"), (BAD_SUMS, "BadSums"), (BAD_DRAWS, "BadDraws"))),
    (joined_loss, (7, TWO), ((BAD_P, "BadPrime"), (BAD_SUMS, "BadSums"))),
    (nought_sum, (7, 2, RULE, (3, 4)), (
        (BAD_P, "BadPrime"), (BAD_MANY, "BadMany"), (BAD_RULE, "BadRule"), (BAD_POINT, "BadPoint"))),
    (nought_loss, (7, 2, RULE), ((BAD_P, "BadPrime"), (BAD_MANY, "BadMany"), (BAD_RULE, "BadRule"))),
)


class OrderTest(PointCase):
    def test_several_wrong_arguments(self):
        self.first_errors(CALLS)

    def test_at_last(self):
        large = ((7, 1, plus_tree([("name", 0)] * 1000), 0),)
        self.fails(BadDraws, {}, joined, 7, large, (7,))
        self.fails(BadSum, {}, joined, 7, large, (6,))
        self.fails(BadPoint, {}, nought_sum, 7, 1, power_rule(30), (7,))
        self.fails(BadSum, {}, nought_sum, 7, 1, power_rule(30), (6,))

    def test_nothing_is_left_behind(self):
        self.nothing_left_behind(CALLS)
        self.same_backward([(function, right) for function, right, _ in CALLS])


if __name__ == "__main__":
    unittest.main()
