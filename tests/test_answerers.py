"""Points [1], [16] and [17]: answerers, and the shares of all draws at which they pass."""

import unittest
from fractions import Fraction
from itertools import product

from pointsenough.answerers import chances, is_answerer, lines_of, share_of
from pointsenough.errors import BadAnswerer, BadDraws, BadSum, TooGreat
from pointsenough.sums import best_line, judged, loss, plain_line
from tests.support import (
    BIG, NUMBER, PointCase, line_for, numbers_for, plain_degrees, plain_rows_sum, plain_sum,
    plain_value, power_rule, rule_for, wrong_answerers, wrong_draws, wrong_sums,
)

RULE = ("times", ("name", 0), ("plus", ("name", 0), ("table", (1, 2), (("name", 1),))))
GOOD, BAD = (7, 2, RULE, 5), (7, 2, RULE, 6)
WORDS = (("plain",), ("best",), ("even",))
THREE = ("times", ("name", 2), ("plus", ("times", ("name", 0), ("name", 1)), ("times", ("name", 2), ("name", 0))))
# Rules and primes with few rows of draws, told degrees below, at and above p - 1 among them.
FEW = (
    (7, 0, ("number", 3)), (5, 1, NUMBER), (5, 1, ("name", 0)), (5, 1, power_rule(3)), (5, 1, power_rule(4)),
    (5, 1, power_rule(5)), (5, 1, power_rule(30)), (7, 1, power_rule(6)), (7, 1, ("minus", ("name", 0), ("name", 0))),
    (7, 2, RULE), (5, 2, ("times", ("name", 0), ("name", 1))), (5, 2, NUMBER), (5, 2, ("name", 1)),
    (5, 2, ("times", power_rule(4), ("name", 1))), (5, 2, ("plus", power_rule(6), ("name", 1))), (5, 3, THREE),
    (11, 2, ("table", (1, 5, 0, 3), (("name", 1), ("name", 0)))), (5, 3, ("table", (1, 0, 0, 3), (("name", 2),) * 2)),
)


def with_claim(told, by):
    p, many, rule = told
    return (p, many, rule, (plain_rows_sum(p, many, rule, ()) + by) % p)


def plain_lines_of(claimed, answerer, draws):
    """The lines of an answerer, by the words of the document."""
    p, many, rule, so_far = claimed
    told = []
    for k in range(many):
        plain = plain_line(claimed, draws[:k])
        lack = so_far - plain_value(p, plain, 0) - plain_value(p, plain, 1)
        own = dict(answerer[1]) if answerer[0] == "by" else {}
        if draws[:k] in own:
            line = own[draws[:k]]
        elif answerer[0] == "plain":
            line = plain
        elif answerer[0] == "even":
            line = plain_sum(p, plain, (lack * pow(2, -1, p),), 1)
        else:
            line = best_line(p, plain, so_far, plain_degrees(many, rule)[k])
        told.append(line)
        so_far = plain_value(p, line, draws[k])
    return tuple(told)


def plain_chances(claimed, answerer):
    """The chances, each row of draws judged by itself."""
    p, many = claimed[0], claimed[1]
    numbers = [0] * (many + 2)
    for draws in product(range(p), repeat=many):
        told = judged(claimed, lines_of(claimed, answerer, draws), draws)
        numbers[many + 1 if told == ("passed",) else told[1]] += 1
    shares = [Fraction(number, p ** many) for number in numbers]
    return tuple((part.numerator, part.denominator) for part in shares)


def by_answerers(p, many):
    """Answerers by pairs, with and without the draws so far, right and wrong ones."""
    told = [("by", ())]
    if many > 0:
        told += [("by", (((), line),)) for line in ((), (1,), (0, 1), (3, 4), (0, 0, 0, 1), (1,) * 40)]
    if many > 1:
        ones = tuple(((draw,), line_for(p, draw, 2)) for draw in range(p))
        told += [("by", ones), ("by", (((), (1, 3)),) + ones[1:3]), ("by", (((), (4,)), ((p - 1,), ())))]
        told += [("by", ((((), ())), ((0,), ()), ((1,), (1,))))]
    if many > 2:
        told += [("by", (((), (3, 4)), ((0,), (1,)), ((0, 0), (1, 2)), ((0, 1), ()), ((1, 1), (3,)), ((2,), (0, 1))))]
    return told


class ExamplesTest(PointCase):
    def test_examples(self):
        self.tells((19, 49), share_of, BAD, ("best",))
        self.tells((0, 1), share_of, BAD, ("even",))
        self.tells((0, 1), share_of, BAD, ("plain",))
        self.tells(((0, 5, 1), (5,)), lines_of, BAD, ("best",), (3, 4))
        self.tells(((0, 1), (0, 1), (30, 49), (19, 49)), chances, BAD, ("best",))


class IsAnswererTest(PointCase):
    def test_answerers(self):
        for claimed in (GOOD, BAD, (7, 0, NUMBER, 1), (BIG, 10, NUMBER, 1)):
            for answerer in WORDS + (("by", ()),):
                self.tells(True, is_answerer, claimed, answerer)
        for p, many in ((5, 0), (5, 1), (7, 2), (5, 3), (BIG, 10)):
            for answerer in by_answerers(min(p, 20), many):
                self.tells(True, is_answerer, (p, many, NUMBER, 1), answerer)

    def test_draws_so_far_are_fewer_than_names(self):
        for many in range(5):
            for length in range(7):
                pair = ((1,) * length, (1, 2))
                self.tells(length < many, is_answerer, (7, many, NUMBER, 1), ("by", (pair,)))

    def test_ascending_as_tuples(self):
        claimed = (7, 4, NUMBER, 1)
        draws = [(), (0,), (0, 0), (0, 0, 5), (0, 1), (0, 6, 6), (1,), (1, 0), (5, 5, 5), (6,), (6, 6, 6)]
        pairs = tuple((row, (1,)) for row in draws)
        self.tells(True, is_answerer, claimed, ("by", pairs))
        for k in range(len(pairs) - 1):
            swapped = pairs[:k] + (pairs[k + 1], pairs[k]) + pairs[k + 2:]
            self.tells(False, is_answerer, claimed, ("by", swapped))
            self.tells(False, is_answerer, claimed, ("by", pairs[:k] + (pairs[k],) + pairs[k:]))
        self.tells(False, is_answerer, claimed, ("by", pairs[::-1]))

    def test_the_prime_matters(self):
        self.tells(True, is_answerer, (11, 2, NUMBER, 1), ("by", (((), (7,)), ((9,), (1,)))))
        self.tells(False, is_answerer, (7, 2, NUMBER, 1), ("by", (((), (7,)),)))
        self.tells(False, is_answerer, (7, 2, NUMBER, 1), ("by", (((9,), (1,)),)))

    def test_what_is_none(self):
        for p, many in ((7, 2), (BIG, 3)):
            for wrong in wrong_answerers(p, many):
                self.tells(False, is_answerer, (p, many, NUMBER, 1), wrong)

    def test_what_is_no_sum(self):
        for wrong in wrong_sums():
            for answerer in (("plain",), ("by", ()), None):
                self.tells(False, is_answerer, wrong, answerer)


class LinesOfTest(PointCase):
    def test_few_draws(self):
        for told in FEW:
            p, many = told[0], told[1]
            for by in (0, 1, p - 1):
                claimed = with_claim(told, by)
                for answerer in WORDS + tuple(by_answerers(p, many)):
                    for seed in range(4):
                        draws = numbers_for(p, seed, many)
                        self.tells(plain_lines_of(claimed, answerer, draws), lines_of, claimed, answerer, draws)

    def test_drawn_ones(self):
        for p in (7, 10007, BIG):
            for many in (1, 2, 4, 6):
                for seed in range(4):
                    rule = rule_for(p, many, seed, 3)
                    claimed = with_claim((p, many, rule), seed)
                    draws = numbers_for(p, seed, many)
                    for answerer in WORDS:
                        self.tells(plain_lines_of(claimed, answerer, draws), lines_of, claimed, answerer, draws)

    def test_right_claims_have_the_plain_lines(self):
        for answerer in WORDS + (("by", ()),):
            self.tells(((0, 3, 2), (5, 3)), lines_of, GOOD, answerer, (3, 4))

    def test_each_answerer(self):
        self.tells(((0, 3, 2), (5, 3)), lines_of, BAD, ("plain",), (3, 4))
        self.tells(((4, 3, 2), (0, 3)), lines_of, BAD, ("even",), (3, 4))
        self.tells(((0, 5, 1), (5,)), lines_of, BAD, ("by", ()), (3, 4))

    def test_by_pairs(self):
        pairs = (((), (3, 0, 0, 5)), ((3,), (1, 1)))
        self.tells(((3, 0, 0, 5), (1, 1)), lines_of, BAD, ("by", pairs), (3, 4))
        self.tells(((3, 0, 0, 5), (1, 1)), lines_of, GOOD, ("by", pairs), (3, 0))
        # Behind a line of its own it goes on from that line's value.
        value = (3 + 5 * 4 ** 3) % 7
        best = best_line(7, plain_line(BAD, (4,)), value, 1)
        self.tells(((3, 0, 0, 5), best), lines_of, BAD, ("by", pairs), (4, 4))
        self.tells(((0, 5, 1), (1, 1)), lines_of, BAD, ("by", pairs[1:]), (3, 4))
        self.tells(((0, 5, 1), best_line(7, plain_line(BAD, (2,)), 0, 1)), lines_of, BAD, ("by", pairs[1:]), (2, 4))

    def test_no_names(self):
        for answerer in WORDS + (("by", ()),):
            self.tells((), lines_of, (7, 0, NUMBER, 1), answerer, ())
            self.tells((), lines_of, (7, 0, NUMBER, 2), answerer, ())

    def test_wrong_inputs(self):
        for wrong in wrong_sums():
            self.fails(BadSum, {}, lines_of, wrong, ("plain",), (3, 4))
        for wrong in wrong_answerers(7, 2):
            self.fails(BadAnswerer, {}, lines_of, GOOD, wrong, (3, 4))
        for many in (0, 1, 2, 10):
            for draws in wrong_draws(7, many):
                for answerer in WORDS:
                    self.fails(BadDraws, {}, lines_of, (7, many, NUMBER, 1), answerer, draws)


class SharesTest(PointCase):
    def test_each_row_of_draws_judged(self):
        for told in FEW:
            for by in (0, 1, 3):
                claimed = with_claim(told, by)
                for answerer in WORDS + tuple(by_answerers(told[0], told[1])):
                    expected = plain_chances(claimed, answerer)
                    self.tells(expected, chances, claimed, answerer)
                    self.tells(expected[-1], share_of, claimed, answerer)

    def test_right_sums_pass_everywhere(self):
        for told in FEW:
            claimed = with_claim(told, 0)
            for answerer in WORDS + (("by", ()),):
                self.tells((1, 1), share_of, claimed, answerer)
                self.tells(((0, 1),) * (told[1] + 1) + ((1, 1),), chances, claimed, answerer)

    def test_wrong_sums_pass_at_just_the_loss(self):
        for told in FEW:
            for by in range(1, told[0]):
                claimed = with_claim(told, by)
                self.tells(loss(claimed), share_of, claimed, ("best",))
                self.tells((0, 1), share_of, claimed, ("plain",))
                self.tells((0, 1), share_of, claimed, ("even",))

    def test_nobody_passes_beyond_the_loss(self):
        for told in FEW:
            p, many, rule = told
            top, bottom = loss(with_claim(told, 1))
            for by in range(1, p):
                for answerer in by_answerers(p, many):
                    told_top, told_bottom = share_of(with_claim(told, by), answerer)
                    self.assertLessEqual(told_top * bottom, top * told_bottom)

    def test_shares_add_up_to_one(self):
        for told in FEW:
            for by in (0, 1):
                for answerer in WORDS + tuple(by_answerers(told[0], told[1])):
                    shares = chances(with_claim(told, by), answerer)
                    self.assertEqual(sum(Fraction(top, bottom) for top, bottom in shares), 1)
                    self.assertEqual(len(shares), told[1] + 2)

    def test_no_names(self):
        for answerer in WORDS + (("by", ()),):
            for p in (7, BIG):
                self.tells(((0, 1), (1, 1)), chances, (p, 0, ("number", 3), 3), answerer)
                self.tells(((1, 1), (0, 1)), chances, (p, 0, ("number", 3), 4), answerer)
                self.tells((1, 1), share_of, (p, 0, ("number", 3), 3), answerer)
                self.tells((0, 1), share_of, (p, 0, ("number", 3), 4), answerer)

    def test_caught_at_once(self):
        self.tells(((1, 1), (0, 1), (0, 1), (0, 1)), chances, BAD, ("plain",))
        self.tells(((0, 1), (0, 1), (1, 1), (0, 1)), chances, BAD, ("even",))
        self.tells(((1, 1), (0, 1), (0, 1), (0, 1)), chances, GOOD, ("by", (((), (1,)),)))


class TooGreatTest(PointCase):
    def test_as_many_draws_as_may_be(self):
        product_rule = ("times", ("name", 0), ("name", 1))
        for p, many, rule in (
                (29989, 1, ("times", ("name", 0), ("name", 0))), (173, 2, product_rule), (31, 3, product_rule),
                (13, 4, product_rule), (7, 5, product_rule), (5, 6, product_rule)):
            for answerer in (("best",), ("even",)):
                wrong, right = with_claim((p, many, rule), 2), with_claim((p, many, rule), 0)
                self.assertEqual(share_of(wrong, answerer), loss(wrong) if answerer == ("best",) else (0, 1))
                self.assertEqual(chances(right, answerer), ((0, 1),) * (many + 1) + ((1, 1),))

    def test_more_draws(self):
        sizes = ((30011, 1), (BIG, 1), (179, 2), (BIG, 2), (37, 3), (17, 4), (11, 5), (7, 6), (5, 7), (5, 10), (BIG, 10))
        for p, many in sizes:
            for answerer in WORDS + (("by", ()), ("by", (((), (1,)),))):
                for function in (share_of, chances):
                    self.fails(TooGreat, {"most": 30000}, function, (p, many, NUMBER, 1), answerer)

    def test_wrong_inputs(self):
        for function in (share_of, chances):
            for wrong in wrong_sums():
                self.fails(BadSum, {}, function, wrong, ("plain",))
            for wrong in wrong_answerers(7, 2):
                self.fails(BadAnswerer, {}, function, GOOD, wrong)
            for wrong in wrong_answerers(BIG, 10):
                self.fails(BadAnswerer, {}, function, (BIG, 10, NUMBER, 1), wrong)


if __name__ == "__main__":
    unittest.main()
