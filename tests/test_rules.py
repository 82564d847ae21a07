"""Points [1], [9] and [10]: rules."""

import unittest
from itertools import product

from pointsenough.errors import BadMany, BadName, BadNumber, BadPoint, BadPrime, BadRule
from pointsenough.rules import is_rule, put, row_values, sum_of, told_degrees, value
from tests.support import (
    BIG, NUMBER, PointCase, any_values, bad_tuples, bits_rows, deep_rule, numbers_for, plain_degrees, plain_rule,
    plus_tree, power_rule, rule_for, shared_rule, wrong_many, wrong_numbers, wrong_points, wrong_primes, wrong_rules,
)

PRIMES = (5, 7, 11, 10007, BIG)
RULE = ("times", ("name", 0), ("plus", ("name", 0), ("table", (1, 2), (("name", 1),))))
WHOLE_TABLE = tuple(range(1024))
TEN_NAMES = tuple(("name", name) for name in range(10))


def plain_put(rule, name, number):
    if rule == ("name", name):
        return ("number", number)
    if rule[0] == "table":
        return ("table", rule[1], tuple(plain_put(place, name, number) for place in rule[2]))
    if rule[0] in ("plus", "minus", "times"):
        return (rule[0], plain_put(rule[1], name, number), plain_put(rule[2], name, number))
    return rule


class ExamplesTest(PointCase):
    def test_examples(self):
        self.tells(3, value, 7, 2, RULE, (3, 4))
        self.tells((2, 1), told_degrees, 2, RULE)
        self.tells((0, 0, 2, 3), row_values, 7, 2, RULE)
        self.tells(5, sum_of, 7, 2, RULE)
        self.tells(("number", 5), put, 7, 1, ("name", 0), 0, 5)


class IsRuleTest(PointCase):
    def test_each_kind(self):
        for p in PRIMES:
            for number in (0, 1, p - 1):
                self.tells(True, is_rule, p, 0, ("number", number))
            for many in (1, 2, 10, 23, 24):
                for name in range(many):
                    self.tells(True, is_rule, p, many, ("name", name))
            for word in ("plus", "minus", "times"):
                self.tells(True, is_rule, p, 1, (word, ("name", 0), ("number", p - 1)))
            self.tells(True, is_rule, p, 1, ("table", (0, p - 1), (("name", 0),)))

    def test_no_names_and_most_names(self):
        self.tells(True, is_rule, 7, 0, NUMBER)
        self.tells(False, is_rule, 7, 0, ("name", 0))
        self.tells(False, is_rule, 7, 0, ("table", (1, 2), (("name", 0),)))
        self.tells(True, is_rule, 7, 0, ("table", (1, 2), (NUMBER,)))
        self.tells(True, is_rule, 7, 24, plus_tree([("name", name) for name in range(24)]))
        self.tells(False, is_rule, 7, 24, ("plus", ("name", 23), ("name", 24)))
        self.tells(False, is_rule, 7, 23, ("name", 23))
        self.tells(False, is_rule, 7, 25, NUMBER)

    def test_tables(self):
        self.tells(True, is_rule, 7, 0, ("table", (3,), ()))
        self.tells(True, is_rule, 7, 3, ("table", (1, 2, 3, 4), (("name", 2), ("name", 2))))
        self.tells(True, is_rule, 7, 3, ("table", (1, 2, 3, 4), (("number", 6), ("name", 0))))
        self.tells(True, is_rule, 1031, 10, ("table", WHOLE_TABLE, TEN_NAMES))
        self.tells(False, is_rule, 1021, 10, ("table", WHOLE_TABLE, TEN_NAMES))
        self.tells(False, is_rule, 1031, 9, ("table", WHOLE_TABLE, TEN_NAMES))
        self.tells(False, is_rule, 1031, 10, ("table", WHOLE_TABLE, TEN_NAMES[:9]))
        self.tells(False, is_rule, 1031, 10, ("table", WHOLE_TABLE, TEN_NAMES + (NUMBER,)))

    def test_how_many_tuples(self):
        # Each join has two parts, so that a rule's tuples are always odd in number.
        for leaf in (NUMBER, ("name", 0), ("table", (1, 2, 3, 4), (("name", 0), NUMBER)), ("table", (2,), ())):
            self.tells(True, is_rule, 7, 1, plus_tree([leaf] * 1000))
            self.tells(False, is_rule, 7, 1, plus_tree([leaf] * 1001))
            self.tells(False, is_rule, 7, 1, plus_tree([leaf] * 1500))

    def test_how_many_within_one_another(self):
        for leaf in (NUMBER, ("name", 0), ("table", (1, 2, 3, 4), (("name", 0), NUMBER)), ("table", (2,), ())):
            self.tells(True, is_rule, 7, 1, deep_rule(399, leaf))
            self.tells(True, is_rule, 7, 1, deep_rule(400, leaf))
            self.tells(False, is_rule, 7, 1, deep_rule(401, leaf))
            self.tells(False, is_rule, 7, 1, deep_rule(450, leaf))
        for side in (1, 2):
            rule = NUMBER
            for _ in range(399):
                rule = ("times", rule, NUMBER) if side == 1 else ("times", NUMBER, rule)
            self.tells(True, is_rule, 7, 0, rule)
            self.tells(False, is_rule, 7, 0, ("minus", rule, NUMBER))
            self.tells(False, is_rule, 7, 0, ("minus", NUMBER, rule))

    def test_parts_that_are_one_object_count_each(self):
        self.tells(True, is_rule, 7, 0, shared_rule(9))
        self.tells(False, is_rule, 7, 0, shared_rule(10))
        for times in (20, 60, 399):
            self.assertIs(is_rule(7, 0, shared_rule(times)), False)
            self.assertIs(is_rule(7, 24, ("plus", ("name", 23), shared_rule(times))), False)

    def test_what_is_none(self):
        for p in (5, 7, BIG):
            for many in (0, 1, 2, 24):
                for wrong in wrong_rules(p, many):
                    self.tells(False, is_rule, p, many, wrong)

    def test_wrong_many(self):
        for many in wrong_many(24):
            for rule in (NUMBER, ("name", 0), None):
                self.tells(False, is_rule, 7, many, rule)

    def test_the_prime_matters(self):
        self.tells(False, is_rule, 5, 0, ("number", 5))
        self.tells(True, is_rule, 7, 0, ("number", 5))
        self.tells(False, is_rule, 5, 0, ("plus", NUMBER, ("table", (1, 5), (NUMBER,))))
        self.tells(False, is_rule, 5, 0, ("plus", NUMBER, ("table", (1, 4), (("number", 5),))))

    def test_wrong_primes(self):
        for p in wrong_primes():
            for many, rule in ((0, NUMBER), (1, ("name", 0)), (25, NUMBER), (None, None)):
                self.fails(BadPrime, {}, is_rule, p, many, rule)


class ValueTest(PointCase):
    def test_each_kind(self):
        one, other = ("name", 0), ("name", 1)
        for x, y in product(range(7), repeat=2):
            self.tells(3, value, 7, 2, ("number", 3), (x, y))
            self.tells(x, value, 7, 2, one, (x, y))
            self.tells(y, value, 7, 2, other, (x, y))
            self.tells((x + y) % 7, value, 7, 2, ("plus", one, other), (x, y))
            self.tells((x - y) % 7, value, 7, 2, ("minus", one, other), (x, y))
            self.tells(x * y % 7, value, 7, 2, ("times", one, other), (x, y))
            for places in product((one, other, ("number", 4)), repeat=2):
                rule = ("table", (1, 5, 0, 3), places)
                self.tells(plain_rule(7, rule, (x, y)), value, 7, 2, rule, (x, y))

    def test_drawn_ones(self):
        for p in PRIMES:
            for many in (0, 1, 2, 3, 5, 24):
                for seed in range(12):
                    rule, point = rule_for(p, many, seed, 4), numbers_for(p, seed + many, many)
                    self.tells(plain_rule(p, rule, point), value, p, many, rule, point)

    def test_tables(self):
        self.tells(4, value, 7, 0, ("table", (4,), ()), ())
        self.tells(4, value, 7, 3, ("plus", ("table", (4,), ()), ("number", 0)), (1, 2, 3))
        self.tells(3, value, 7, 1, ("table", (0, 0, 0, 5), (("name", 0), ("name", 0))), (3,))
        for p in (1031, BIG):
            point = numbers_for(p, 3, 10)
            for places in (TEN_NAMES, TEN_NAMES[::-1], TEN_NAMES[:5] * 2, TEN_NAMES[:9] + (("number", 77),)):
                rule = ("table", WHOLE_TABLE, places)
                self.tells(plain_rule(p, rule, point), value, p, 10, rule, point)

    def test_large_rules(self):
        self.tells(1000 % 7, value, 7, 0, plus_tree([NUMBER] * 1000), ())
        self.tells(400 * 3 % 101, value, 101, 1, deep_rule(400, ("name", 0)), (3,))
        rule = ("name", 0)
        for _ in range(399):
            rule = ("minus", ("name", 1), rule)
        self.tells((5 - 3) % 11, value, 11, 2, rule, (3, 5))
        self.tells(pow(3, 1000, BIG), value, BIG, 1, power_rule(1000), (3,))
        self.tells(23, value, 101, 24, ("name", 23), tuple(range(24)))

    def test_wrong_inputs(self):
        for p in wrong_primes():
            self.fails(BadPrime, {}, value, p, 2, RULE, (3, 4))
        for many in wrong_many(24):
            self.fails(BadMany, {}, value, 7, many, NUMBER, ())
        for p, many in ((5, 0), (7, 2), (BIG, 24)):
            for rule in wrong_rules(p, many):
                self.fails(BadRule, {}, value, p, many, rule, (1,) * many)
        for many in (0, 1, 2, 24):
            for point in wrong_points(7, 24) + [(1,) * length for length in range(26)]:
                if not isinstance(point, tuple) or len(point) != many or point != (1,) * many:
                    self.fails(BadPoint, {}, value, 7, many, NUMBER, point)
        self.fails(BadPoint, {}, value, 7, 2, RULE, (3, True))
        self.fails(BadPoint, {}, value, 7, 2, RULE, [3, 4])


class ToldDegreesTest(PointCase):
    def test_each_kind(self):
        self.tells((), told_degrees, 0, NUMBER)
        self.tells((0, 0, 0), told_degrees, 3, ("number", 4))
        self.tells((0, 1, 0), told_degrees, 3, ("name", 1))
        self.tells((2, 0, 1), told_degrees, 3, ("table", (1,) * 16, (("name", 0), ("name", 2), ("name", 0), NUMBER)))
        self.tells((0,), told_degrees, 1, ("table", (1,), ()))
        one, other = ("times", ("name", 0), ("name", 0)), ("times", ("name", 0), ("name", 1))
        for word in ("plus", "minus"):
            self.tells((2, 1), told_degrees, 2, (word, one, other))
            self.tells((2, 1), told_degrees, 2, (word, other, one))
        self.tells((3, 1), told_degrees, 2, ("times", one, other))

    def test_told_ones_may_be_more_than_a_rules_own(self):
        self.tells((1,), told_degrees, 1, ("minus", ("name", 0), ("name", 0)))
        self.tells((1,), told_degrees, 1, ("times", ("number", 0), ("name", 0)))
        self.tells((1,), told_degrees, 1, ("table", (2, 2), (("name", 0),)))

    def test_drawn_ones(self):
        for many in (0, 1, 2, 5, 24):
            for seed in range(30):
                rule = rule_for(11, many, seed, 5)
                self.tells(plain_degrees(many, rule), told_degrees, many, rule)

    def test_great_ones(self):
        for degree in (30, 31, 999):
            self.tells((degree, 0), told_degrees, 2, power_rule(degree))
        self.tells((10,), told_degrees, 1, ("table", WHOLE_TABLE, (("name", 0),) * 10))
        self.tells((1,) * 24, told_degrees, 24, plus_tree([("name", name) for name in range(24)]))
        self.tells((1,), told_degrees, 1, deep_rule(400, ("name", 0)))


class PutTest(PointCase):
    def test_everywhere(self):
        table = ("table", (1, 2, 3, 4), (("name", 0), ("name", 1)))
        rule = ("times", ("name", 0), ("minus", table, ("plus", ("name", 1), ("name", 0))))
        five = ("number", 5)
        held = ("table", (1, 2, 3, 4), (five, ("name", 1)))
        self.tells(("times", five, ("minus", held, ("plus", ("name", 1), five))), put, 7, 2, rule, 0, 5)
        self.tells(("table", (1, 2, 3, 4), (("name", 0), five)), put, 7, 2, table, 1, 5)

    def test_other_names_and_numbers_stay(self):
        for rule in (NUMBER, ("name", 1), ("table", (1, 2), (("number", 0),)), ("table", (4,), ())):
            self.tells(rule, put, 7, 2, rule, 0, 5)
        self.tells(("number", 0), put, 7, 1, ("number", 0), 0, 3)

    def test_drawn_ones(self):
        for p in (5, BIG):
            for many in (1, 2, 5, 24):
                for seed in range(15):
                    rule = rule_for(p, many, seed, 4)
                    for name in {0, seed % many, many - 1}:
                        number = numbers_for(p, seed, 1)[0]
                        self.tells(plain_put(rule, name, number), put, p, many, rule, name, number)

    def test_large_rules(self):
        self.tells(deep_rule(400, ("number", 3)), put, 7, 1, deep_rule(400, ("name", 0)), 0, 3)
        self.tells(plus_tree([("number", 0)] * 1000), put, 7, 24, plus_tree([("name", 23)] * 1000), 23, 0)

    def test_values_agree(self):
        for seed in range(20):
            rule = rule_for(11, 2, seed, 4)
            for x, y in product((0, 1, 4, 10), repeat=2):
                self.tells(value(11, 2, rule, (x, y)), value, 11, 2, put(11, 2, rule, 0, x), (5, y))

    def test_wrong_inputs(self):
        for p in wrong_primes():
            self.fails(BadPrime, {}, put, p, 2, RULE, 0, 1)
        for many in wrong_many(24):
            self.fails(BadMany, {}, put, 7, many, NUMBER, 0, 1)
        for p, many in ((5, 1), (7, 2), (BIG, 24)):
            for rule in wrong_rules(p, many):
                self.fails(BadRule, {}, put, p, many, rule, 0, 1)
            for name in any_values() + bad_tuples() + [-1, many, many + 1, ("name", 0), (0,), ()]:
                self.fails(BadName, {}, put, p, many, NUMBER, name, 1)
            for number in wrong_numbers(p):
                self.fails(BadNumber, {}, put, p, many, ("name", 0), 0, number)
        for name in (-1, 0, 1):
            self.fails(BadName, {}, put, 7, 0, NUMBER, name, 1)


class RowValuesTest(PointCase):
    def test_drawn_ones(self):
        for p in PRIMES:
            for many in range(6):
                for seed in range(8):
                    rule = rule_for(p, many, seed, 4)
                    expected = tuple(plain_rule(p, rule, row) for row in bits_rows(many))
                    self.tells(expected, row_values, p, many, rule)
                    self.tells(sum(expected) % p, sum_of, p, many, rule)

    def test_no_names(self):
        self.tells((3,), row_values, 7, 0, ("number", 3))
        self.tells(3, sum_of, 7, 0, ("number", 3))
        self.tells((2,), row_values, 7, 0, ("table", (4, 2), (NUMBER,)))

    def test_ten_names(self):
        for places in (TEN_NAMES, TEN_NAMES[::-1], TEN_NAMES[3:] + TEN_NAMES[:3], TEN_NAMES[:5] * 2):
            rule = ("plus", ("table", WHOLE_TABLE, places), ("name", 9))
            expected = tuple(
                (WHOLE_TABLE[int("".join(str(row[name]) for _, name in places), 2)] + row[9]) % 1031
                for row in bits_rows(10))
            self.tells(expected, row_values, 1031, 10, rule)
            self.tells(sum(expected) % 1031, sum_of, 1031, 10, rule)

    def test_more_than_ten_names(self):
        for function in (row_values, sum_of):
            for many in range(11, 27):
                self.fails(BadMany, {}, function, 7, many, NUMBER)

    def test_all_names_count(self):
        self.tells(1024 % 7, sum_of, 7, 10, NUMBER)
        self.tells(512 % 7, sum_of, 7, 10, ("name", 4))
        self.tells((1,) * 8, row_values, 7, 3, NUMBER)

    def test_wrong_inputs(self):
        for function in (row_values, sum_of):
            for p in wrong_primes():
                self.fails(BadPrime, {}, function, p, 2, RULE)
            for many in wrong_many(10):
                self.fails(BadMany, {}, function, 7, many, NUMBER)
            for p, many in ((5, 0), (7, 2), (BIG, 10)):
                for rule in wrong_rules(p, many):
                    self.fails(BadRule, {}, function, p, many, rule)


if __name__ == "__main__":
    unittest.main()
