"""Points [1] and [11] to [15]: sums, their judge, the plain and the best lines."""

import unittest
from fractions import Fraction
from itertools import product

from pointsenough.errors import BadDegree, BadDraws, BadLine, BadNumber, BadPrime, BadSum
from pointsenough.sums import best_line, claims, is_so, is_sum, judged, loss, plain_line, work
from tests.support import (
    BIG, HUGE, NUMBER, PointCase, any_values, bad_tuples, deep_rule, line_for, numbers_for, plain_degrees,
    plain_product, plain_rows_sum, plain_rule, plain_sum, plain_value, plus_tree, power_rule, rule_for, wrong_draws,
    wrong_integers, wrong_lines, wrong_numbers, wrong_primes, wrong_sums,
)

PRIMES = (5, 7, 11, 10007, BIG)
RULE = ("times", ("name", 0), ("plus", ("name", 0), ("table", (1, 2), (("name", 1),))))
GOOD, BAD = (7, 2, RULE, 5), (7, 2, RULE, 6)
LINES = ((0, 3, 2), (5, 3))
CUBE = ("times", ("name", 0), ("times", ("name", 0), ("name", 0)))
SMALL = (NUMBER, ("name", 0), CUBE, ("minus", ("name", 0), ("times", CUBE, ("name", 0))), power_rule(6), power_rule(30))


def right_sum(p, many, rule):
    return (p, many, rule, plain_rows_sum(p, many, rule, ()))


def wronged(claimed, by):
    return claimed[:3] + ((claimed[3] + by) % claimed[0],)


def drawn_sums(p, most, seeds):
    """Right sums whose told degrees are small enough."""
    told = []
    for many in range(most + 1):
        for seed in range(seeds):
            rule = rule_for(p, many, seed, 4)
            if max(plain_degrees(many, rule), default=0) <= 30:
                told.append(right_sum(p, many, rule))
    return told


def plain_lines(claimed, draws):
    return tuple(plain_line(claimed, draws[:k]) for k in range(len(draws)))


def plain_loss(p, degrees):
    kept = Fraction(1)
    for degree in degrees:
        kept *= 1 - Fraction(min(degree, p - 1), p)
    return ((1 - kept).numerator, (1 - kept).denominator)


def plain_best(p, plain, claim, degree):
    """The best line, by its words."""
    if (plain_value(p, plain, 0) + plain_value(p, plain, 1)) % p == claim:
        return plain
    vanishing = (1,)
    for place in ([0] + list(range(2, min(p, 40))))[:min(degree, p - 1)]:
        vanishing = plain_product(p, vanishing, ((-place) % p, 1))
    lack = claim - plain_value(p, plain, 0) - plain_value(p, plain, 1)
    ends = plain_value(p, vanishing, 0) + plain_value(p, vanishing, 1)
    return plain_sum(p, plain, vanishing, lack * pow(ends, -1, p))


class ExamplesTest(PointCase):
    def test_first_row(self):
        self.tells(True, is_so, GOOD)
        self.tells(False, is_so, BAD)
        self.tells((0, 3, 2), plain_line, GOOD, ())
        self.tells((5, 3), plain_line, GOOD, (3,))
        self.tells((19, 49), loss, GOOD)
        self.tells(((5, 2, 5), (5, 8, 2)), work, GOOD)

    def test_second_row(self):
        self.tells(("passed",), judged, GOOD, LINES, (3, 4))
        self.tells(("caught", 0, "halves"), judged, BAD, LINES, (3, 4))
        self.tells((5, 6, 3), claims, GOOD, LINES, (3, 4))
        self.tells(("caught", 1, "halves"), judged, GOOD, [(0, 3, 2), (1, 1)], (3, 4))

    def test_third_row(self):
        self.tells((0, 5, 1), best_line, 7, (0, 3, 2), 6, 2)
        self.tells((0, 3, 2), best_line, 7, (0, 3, 2), 5, 2)
        self.tells((3,), best_line, 7, (1,), 6, 0)


class IsSumTest(PointCase):
    def test_sums(self):
        for p in PRIMES:
            for many in (0, 1, 2, 9, 10):
                for claim in (0, 1, p - 1):
                    self.tells(True, is_sum, (p, many, NUMBER, claim))
            for claimed in drawn_sums(p, 4, 4):
                self.tells(True, is_sum, claimed)

    def test_names(self):
        self.tells(True, is_sum, (7, 10, ("name", 9), 0))
        self.tells(False, is_sum, (7, 11, ("name", 9), 0))
        self.tells(False, is_sum, (7, 9, ("name", 9), 0))
        self.tells(False, is_sum, (7, 24, NUMBER, 0))

    def test_told_degrees(self):
        self.tells(True, is_sum, (7, 1, power_rule(30), 0))
        self.tells(False, is_sum, (7, 1, power_rule(31), 0))
        both = ("times", power_rule(30), ("times", ("name", 1), ("name", 1)))
        self.tells(True, is_sum, (7, 2, both, 0))
        self.tells(False, is_sum, (7, 2, ("times", both, ("name", 0)), 0))
        self.tells(True, is_sum, (7, 2, ("times", both, ("name", 1)), 0))
        self.tells(True, is_sum, (7, 2, ("plus", power_rule(30), power_rule(30)), 0))
        self.tells(False, is_sum, (7, 2, ("minus", power_rule(31), power_rule(31)), 0))
        self.tells(False, is_sum, (7, 1, ("times", ("number", 0), power_rule(31)), 0))
        self.tells(False, is_sum, (7, 10, swapped_power(31), 0))
        self.tells(True, is_sum, (7, 10, swapped_power(30), 0))

    def test_large_rules(self):
        for leaf in (NUMBER, ("name", 0)):
            self.tells(True, is_sum, (7, 1, plus_tree([leaf] * 1000), 0))
            self.tells(False, is_sum, (7, 1, plus_tree([leaf] * 1001), 0))
            self.tells(True, is_sum, (7, 1, deep_rule(400, leaf), 0))
            self.tells(False, is_sum, (7, 1, deep_rule(401, leaf), 0))

    def test_what_is_none(self):
        for value in wrong_sums():
            self.tells(False, is_sum, value)

    def test_the_prime_matters(self):
        self.tells(True, is_sum, (7, 0, ("number", 6), 6))
        self.tells(False, is_sum, (5, 0, ("number", 6), 1))
        self.tells(False, is_sum, (5, 0, NUMBER, 6))


def swapped_power(degree):
    """The last of ten names, so many times a factor."""
    rule = ("name", 9)
    for _ in range(degree - 1):
        rule = ("times", rule, ("name", 9))
    return rule


class IsSoTest(PointCase):
    def test_all_claims(self):
        for many in range(4):
            for seed in range(6):
                rule = rule_for(7, many, seed, 3)
                true = plain_rows_sum(7, many, rule, ())
                for claim in range(7):
                    self.tells(claim == true, is_so, (7, many, rule, claim))

    def test_drawn_ones(self):
        for p in PRIMES:
            for claimed in drawn_sums(p, 5, 5):
                self.tells(True, is_so, claimed)
                self.tells(False, is_so, wronged(claimed, 1))

    def test_edges(self):
        self.tells(True, is_so, (7, 0, ("number", 3), 3))
        self.tells(False, is_so, (7, 0, ("number", 3), 4))
        self.tells(True, is_so, (7, 10, NUMBER, 1024 % 7))
        self.tells(True, is_so, (5, 1, power_rule(30), 1))


class PlainLineTest(PointCase):
    def test_all_places_by_small_primes(self):
        for p in (5, 7, 11):
            for claimed in drawn_sums(p, 3, 8) + [right_sum(p, 1, rule) for rule in SMALL]:
                many, rule = claimed[1], claimed[2]
                for done in range(many):
                    draws = numbers_for(p, done + many, done)
                    line = plain_line(claimed, draws)
                    self.assertLessEqual(len(line), p)
                    self.assertTrue(line == () or line[-1] != 0)
                    for place in range(p):
                        self.assertEqual(plain_value(p, line, place), plain_rows_sum(p, many, rule, draws + (place,)))

    def test_great_primes(self):
        for p in (10007, BIG):
            for claimed in drawn_sums(p, 5, 6) + [right_sum(p, 1, rule) for rule in SMALL]:
                many, rule = claimed[1], claimed[2]
                for done in range(many):
                    draws = numbers_for(p, done + many, done)
                    line = plain_line(claimed, draws)
                    self.assertLessEqual(len(line) - 1, plain_degrees(many, rule)[done])
                    for place in (0, 1, 2, p - 1) + numbers_for(p, 9, 3):
                        self.assertEqual(plain_value(p, line, place), plain_rows_sum(p, many, rule, draws + (place,)))

    def test_least_degree(self):
        self.tells((0, 0, 1), plain_line, (5, 1, power_rule(30), 0), ())
        self.tells((0, 0, 0, 1), plain_line, (5, 1, power_rule(27), 0), ())
        self.tells((0, 0, 0, 0, 1), plain_line, (5, 1, power_rule(4), 0), ())
        self.tells((0, 1), plain_line, (5, 1, power_rule(5), 0), ())
        self.tells((0,) * 30 + (1,), plain_line, (31, 1, power_rule(30), 0), ())
        self.tells((0, 0, 1), plain_line, (29, 1, power_rule(30), 0), ())
        self.tells((), plain_line, (7, 1, ("minus", ("name", 0), ("name", 0)), 3), ())
        self.tells((1,), plain_line, (7, 1, NUMBER, 3), ())
        self.tells((4,), plain_line, (7, 3, NUMBER, 3), ())
        self.tells((1,), plain_line, (7, 3, NUMBER, 3), (1, 2))

    def test_the_claim_does_not_matter(self):
        for claim in range(7):
            self.tells((0, 3, 2), plain_line, (7, 2, RULE, claim), ())

    def test_ten_names(self):
        places = tuple(("name", name) for name in range(10))
        table = numbers_for(BIG, 5, 1024)
        claimed = (BIG, 10, ("times", ("table", table, places), ("name", 3)), 0)
        draws = numbers_for(BIG, 6, 10)
        for done in (0, 1, 4, 9):
            line = plain_line(claimed, draws[:done])
            told = plain_value(BIG, line, draws[done])
            self.assertEqual(told, plain_rows_sum(BIG, 10, claimed[2], draws[:done + 1]))

    def test_wrong_draws(self):
        for p in (5, 7, BIG):
            for many in (0, 1, 2, 10):
                for length in range(many, 13):
                    self.fails(BadDraws, {}, plain_line, (p, many, NUMBER, 0), (1,) * length)
                for draws in any_values() + bad_tuples() + [0, 1, (p,), [1], HUGE]:
                    self.fails(BadDraws, {}, plain_line, (p, many, NUMBER, 0), draws)
        for number in wrong_numbers(7):
            self.fails(BadDraws, {}, plain_line, (7, 3, NUMBER, 0), (1, number))
        self.tells((1,), plain_line, (7, 10, NUMBER, 0), (1,) * 9)


class JudgedTest(PointCase):
    def test_right_sums_pass_at_all_draws(self):
        for claimed in drawn_sums(5, 2, 8) + [right_sum(5, 1, rule) for rule in SMALL]:
            for draws in product(range(5), repeat=claimed[1]):
                lines = plain_lines(claimed, draws)
                self.assertEqual(judged(claimed, lines, draws), ("passed",))
                self.assertEqual(judged(claimed, list(lines), draws), ("passed",))

    def test_right_sums_pass_at_drawn_draws(self):
        for p in PRIMES:
            for claimed in drawn_sums(p, 5, 3):
                draws = numbers_for(p, 5, claimed[1])
                lines = plain_lines(claimed, draws)
                self.tells(("passed",), judged, claimed, lines, draws)
                word = "halves" if claimed[1] > 0 else "end"
                self.tells(("caught", 0, word), judged, wronged(claimed, 2), lines, draws)

    def test_no_line(self):
        for wrong in wrong_lines(7):
            self.tells(("caught", 0, "line"), judged, GOOD, (wrong, (5, 3)), (3, 4))
            self.tells(("caught", 1, "line"), judged, GOOD, [(0, 3, 2), wrong], (3, 4))
        for few in ((), ((0, 3, 2),)):
            self.tells(("caught", len(few), "line"), judged, GOOD, few, (3, 4))
            self.tells(("caught", len(few), "line"), judged, GOOD, list(few), (3, 4))

    def test_lines_that_are_no_tuple_or_list(self):
        for lines in any_values() + [0, 1, HUGE]:
            if not isinstance(lines, (tuple, list)):
                self.tells(("caught", 0, "line"), judged, GOOD, lines, (3, 4))
                self.tells((5,), claims, GOOD, lines, (3, 4))
                self.tells(("caught", 0, "line"), judged, (7, 0, NUMBER, 1), lines, ())
                self.tells((1,), claims, (7, 0, NUMBER, 1), lines, ())
        self.tells(("caught", 0, "line"), judged, GOOD, {0: (0, 3, 2), 1: (5, 3)}, (3, 4))
        self.tells(("caught", 0, "line"), judged, (7, 1, NUMBER, 2), "line", (3,))

    def test_degree(self):
        # Both have the right values at 0 and 1.
        self.tells(("caught", 0, "degree"), judged, GOOD, ((0, 3, 1, 1), (5, 3)), (3, 4))
        self.tells(("caught", 1, "degree"), judged, GOOD, ((0, 3, 2), (5, 2, 1)), (3, 4))
        self.tells(("caught", 0, "degree"), judged, (7, 1, NUMBER, 2), ((0, 2),), (3,))
        self.tells(("caught", 0, "degree"), judged, GOOD, ((1,) * 200, (5, 3)), (3, 4))
        # A line of the told degree may have a degree beyond p - 1: then it is heard all the same.
        self.tells(("passed",), judged, (5, 1, power_rule(30), 1), ((0,) * 30 + (1,),), (3,))
        self.tells(("passed",), judged, (5, 1, power_rule(30), 1), ((0, 0, 1),), (3,))
        self.tells(("caught", 0, "degree"), judged, (5, 1, power_rule(30), 1), ((0,) * 31 + (1,),), (3,))
        self.tells(("caught", 0, "degree"), judged, (5, 1, power_rule(6), 1), ((0,) * 10 + (1,),), (3,))

    def test_halves(self):
        for first in product(range(7), repeat=2):
            line = first if first[1] else first[:1] if first[0] else ()
            told = judged((7, 1, ("name", 0), 1), (line,), (3,))
            if (2 * first[0] + first[1]) % 7 != 1:
                self.assertEqual(told, ("caught", 0, "halves"))
            else:
                self.assertEqual(told, ("passed",) if line == (0, 1) else ("caught", 1, "end"))

    def test_what_is_wrong_first(self):
        self.tells(("caught", 0, "line"), judged, BAD, ((0, 0, 0, 0), None), (3, 4))
        self.tells(("caught", 0, "degree"), judged, BAD, ((0, 0, 0, 1), None, None), (3, 4))
        self.tells(("caught", 0, "halves"), judged, BAD, ((0, 3, 2), None, None), (3, 4))
        self.tells(("caught", 1, "line"), judged, GOOD, ((0, 3, 2), (0,), None), (3, 4))
        self.tells(("caught", 1, "halves"), judged, GOOD, ((0, 3, 2), (), ()), (3, 4))

    def test_behind_all_rounds(self):
        for more in (None, (), (1,), 0):
            self.tells(("caught", 2, "line"), judged, GOOD, LINES + (more,), (3, 4))
            self.tells(("caught", 0, "line"), judged, (7, 0, NUMBER, 1), (more,), ())
            self.tells(("caught", 0, "line"), judged, (7, 0, NUMBER, 2), [more], ())
        lines = ((0, 5, 1), (5,))
        self.tells(("caught", 2, "end"), judged, BAD, lines, (3, 4))
        self.tells(("passed",), judged, BAD, lines, (3, 0))
        self.tells(("caught", 2, "line"), judged, BAD, lines + ((),), (3, 4))

    def test_no_names(self):
        for lines in ((), []):
            self.tells(("passed",), judged, (7, 0, ("number", 3), 3), lines, ())
            self.tells(("caught", 0, "end"), judged, (7, 0, ("number", 3), 4), lines, ())

    def test_whoever_answers_one_name(self):
        for rule in (("name", 0), ("times", ("name", 0), ("name", 0))):
            degree = plain_degrees(1, rule)[0]
            for by in range(1, 5):
                claimed = wronged(right_sum(5, 1, rule), by)
                for numbers in product(range(5), repeat=degree + 1):
                    line = plain_sum(5, numbers, (), 0)
                    passes = sum(judged(claimed, (line,), (draw,)) == ("passed",) for draw in range(5))
                    self.assertLessEqual(passes, degree)

    def test_wrong_draws(self):
        for many in (0, 1, 2, 10):
            for draws in wrong_draws(7, many):
                for lines in ((), LINES, None):
                    self.fails(BadDraws, {}, judged, (7, many, NUMBER, 0), lines, draws)
                    self.fails(BadDraws, {}, claims, (7, many, NUMBER, 0), lines, draws)


class ClaimsTest(PointCase):
    def test_right_ones(self):
        for p in PRIMES:
            for claimed in drawn_sums(p, 4, 3):
                many, rule = claimed[1], claimed[2]
                draws = numbers_for(p, 8, many)
                expected = tuple(plain_rows_sum(p, many, rule, draws[:k]) for k in range(many + 1))
                self.tells(expected, claims, claimed, plain_lines(claimed, draws), draws)

    def test_as_far_as_rounds_are_come_to(self):
        self.tells((6,), claims, BAD, LINES, (3, 4))
        self.tells((5, 6), claims, GOOD, ((0, 3, 2), (1, 1)), (3, 4))
        self.tells((5, 6), claims, GOOD, ((0, 3, 2),), (3, 4))
        self.tells((5,), claims, GOOD, (), (3, 4))
        self.tells((5,), claims, GOOD, ((0, 3, 1, 1), (5, 3)), (3, 4))
        self.tells((6, 3, 5), claims, BAD, [(0, 5, 1), (5,)], (3, 4))

    def test_what_is_wrong_behind_the_rounds_takes_nothing_away(self):
        self.tells((5, 6, 3), claims, GOOD, LINES + (None,), (3, 4))
        self.tells((6, 3, 5), claims, BAD, ((0, 5, 1), (5,), ()), (3, 4))

    def test_no_names(self):
        for lines in ((), [], (1,), None):
            self.tells((4,), claims, (7, 0, ("number", 3), 4), lines, ())


class LossTest(PointCase):
    def test_drawn_ones(self):
        for p in PRIMES:
            for claimed in drawn_sums(p, 5, 8):
                self.tells(plain_loss(p, plain_degrees(claimed[1], claimed[2])), loss, claimed)
                self.tells(loss(claimed), loss, wronged(claimed, 1))

    def test_edges(self):
        self.tells((0, 1), loss, (7, 0, NUMBER, 3))
        self.tells((0, 1), loss, (7, 10, NUMBER, 3))
        self.tells((2, 7), loss, (7, 1, power_rule(2), 3))
        self.tells((4, 5), loss, (5, 1, power_rule(4), 3))
        self.tells((4, 5), loss, (5, 1, power_rule(5), 3))
        self.tells((4, 5), loss, (5, 1, power_rule(30), 3))
        self.tells((30, 31), loss, (31, 1, power_rule(30), 3))
        self.tells((30, 37), loss, (37, 1, power_rule(30), 3))
        self.tells((30, BIG), loss, (BIG, 1, power_rule(30), 3))
        self.tells((24, 25), loss, (5, 2, ("times", power_rule(4), plus_power(1, 5)), 3))

    def test_told_degrees_count(self):
        self.tells((1, 7), loss, (7, 1, ("minus", ("name", 0), ("name", 0)), 3))


def plus_power(name, degree):
    rule = ("name", name)
    for _ in range(degree - 1):
        rule = ("times", rule, ("name", name))
    return rule


class BestLineTest(PointCase):
    def test_all_claims(self):
        for p in (5, 7, 11, 31, 37):
            for degree in (0, 1, 2, 3, 4, 5, 6, 10, 29, 30):
                for plain in ((), (1,), (0, 3, 2), line_for(p, degree, 5)):
                    for claim in range(0, p, 1 if p < 11 else 5):
                        self.tells(plain_best(p, plain, claim, degree), best_line, p, plain, claim, degree)

    def test_great_primes(self):
        for p in (10007, BIG):
            for degree in range(31):
                plain, claim = line_for(p, degree, degree + 1), numbers_for(p, degree, 1)[0]
                self.tells(plain_best(p, plain, claim, degree), best_line, p, plain, claim, degree)

    def test_where_it_meets_the_plain_line(self):
        for p in (5, 7, 11):
            for degree in (0, 1, 2, 4, 6, 10, 30):
                plain = line_for(p, degree, 3)
                for claim in range(p):
                    line = best_line(p, plain, claim, degree)
                    self.assertEqual((plain_value(p, line, 0) + plain_value(p, line, 1)) % p, claim)
                    meets = [k for k in range(p) if plain_value(p, line, k) == plain_value(p, plain, k)]
                    if line != plain:
                        expected = ([0] + list(range(2, p)))[:min(degree, p - 1)]
                        self.assertEqual(meets, expected)

    def test_degrees_nought_and_one(self):
        self.tells((3,), best_line, 7, (), 6, 0)
        self.tells((4,), best_line, 7, (), 1, 0)
        self.tells((0, 6), best_line, 7, (), 6, 1)
        self.tells((2, 5), best_line, 7, (2, 3), 2, 1)
        self.tells((2,), best_line, 7, (2, 1), 4, 1)
        self.tells((), best_line, 7, (0, 1), 0, 1)

    def test_long_plain_lines(self):
        plain = (1,) * 200
        self.tells(plain, best_line, 7, plain, 201 % 7, 2)
        told = best_line(7, plain, 0, 2)
        self.assertEqual(told[3:], plain[3:])
        self.tells(plain_best(7, plain, 0, 30), best_line, 7, plain, 0, 30)

    def test_wrong_inputs(self):
        for p in wrong_primes():
            self.fails(BadPrime, {}, best_line, p, (1,), 1, 1)
        for p in (5, 7, BIG):
            for line in wrong_lines(p):
                self.fails(BadLine, {}, best_line, p, line, 1, 1)
            for number in wrong_numbers(p):
                self.fails(BadNumber, {}, best_line, p, (1,), number, 1)
            for degree in wrong_integers(0, 30):
                self.fails(BadDegree, {}, best_line, p, (1,), 2, degree)


class WorkTest(PointCase):
    def test_drawn_ones(self):
        for p in (5, BIG):
            for claimed in drawn_sums(p, 6, 8):
                many, rule = claimed[1], claimed[2]
                degrees = plain_degrees(many, rule)
                heard = sum(degree + 1 for degree in degrees)
                rows = sum((degree + 1) * 2 ** (many - 1 - name) for name, degree in enumerate(degrees))
                self.tells(((heard, many, count_tuples(rule)), (heard, rows, many)), work, claimed)

    def test_edges(self):
        self.tells(((0, 0, 1), (0, 0, 0)), work, (7, 0, NUMBER, 3))
        self.tells(((0, 0, 3), (0, 0, 0)), work, (7, 0, ("plus", NUMBER, ("table", (1, 2), (NUMBER,))), 3))
        self.tells(((10, 10, 1), (10, 1023, 10)), work, (7, 10, NUMBER, 3))
        self.tells(((31, 1, 59), (31, 31, 1)), work, (5, 1, power_rule(30), 3))
        self.tells(((2, 1, 1999), (2, 2, 1)), work, (7, 1, plus_tree([("name", 0)] * 1000), 3))


def count_tuples(rule):
    if rule[0] in ("number", "name", "table"):
        return 1
    return 1 + count_tuples(rule[1]) + count_tuples(rule[2])


class NoSumTest(PointCase):
    def test_what_is_no_sum(self):
        for value in wrong_sums():
            for function in (is_so, loss, work):
                self.fails(BadSum, {}, function, value)
            self.fails(BadSum, {}, plain_line, value, ())
            for function in (judged, claims):
                self.fails(BadSum, {}, function, value, LINES, (3, 4))


class LargestRulesTest(PointCase):
    def test_sums_of_large_rules(self):
        for rule in (plus_tree([("name", 0)] * 1000), deep_rule(400, ("name", 0)), power_rule(30)):
            claimed = right_sum(10007, 1, rule)
            line = plain_line(claimed, ())
            self.tells(("passed",), judged, claimed, (line,), (77,))
            self.assertEqual(plain_value(10007, line, 77), plain_rule(10007, rule, (77,)))
            self.tells(("caught", 0, "halves"), judged, wronged(claimed, 1), (line,), (77,))


if __name__ == "__main__":
    unittest.main()
