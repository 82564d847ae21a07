"""Points [1], [35] and [36]: sealed runs, and the rules that hold in them."""

import unittest

from pointsenough.errors import (
    BadColumn, BadFirst, BadMany, BadPoint, BadPrime, BadSealed, NoMachine)
from pointsenough.machines import machine_of
from pointsenough.rules import is_rule, told_degrees, value
from pointsenough.seals import COLUMNS, ask, row_rules, sealed_run
from tests.support import (
    BIG, HUGE, PointCase, any_values, bad_tuples, drawn_machines, numbers_for, plain_entries, plain_row_rules, plain_sealed,
    plain_spread, wrong_great_primes, wrong_machines, wrong_many, wrong_points, wrong_sealed, wrong_triples_of,
)

PRIMES = (11, 13, 10007, BIG)
NAMES = ("r2", "r1", "r0", "a", "b", "c", "n2", "n1", "n0", "na", "nb", "nc", "is", "inv", "x", "spare")
TEXT = "set b 1\nifnought a 5\nmul b a\nadd a c\ngoto 1\n"


def some_standings(p, seed):
    """Standings at all rows, with noughts among the registers and without."""
    told = []
    for row in range(8):
        told += [(row, *numbers_for(p, seed + row, 3)), (row, 0, 0, 0), (row, 0, 3, p - 1), (row, 2, 0, 1), (row, 1, 5, 0)]
    return told


def rule_values(p, rules, point):
    return tuple(value(p, 16, rule, tuple(point)) for rule in rules)


class ExamplesTest(PointCase):
    def test_examples(self):
        sealed = sealed_run(11, machine_of("add a b\nhalt\n"), (1, 2, 3), 1)
        self.assertEqual(COLUMNS[6:12], ("n2", "n1", "n0", "na", "nb", "nc"))
        self.assertEqual([sealed[at] for at in (2, 3, 8, 9, 12)], [(0, 1), (1, 3), (1, 1), (3, 3), (1, 1)])
        self.tells(0, ask, 11, sealed, "a", (5,))
        self.assertEqual(len(row_rules(11, machine_of("halt\n"))), 14)

    def test_columns(self):
        self.assertEqual(repr(COLUMNS), repr(NAMES))


class SealedTest(PointCase):
    def test_drawn_ones(self):
        for p in PRIMES:
            for seed, text in enumerate(drawn_machines()):
                for names in range(5):
                    first = numbers_for(p, seed + names, 3) if names % 2 else (0, 1, seed % 3)
                    self.tells(plain_sealed(p, text, first, names), sealed_run, p, machine_of(text), first, names)

    def test_tests_of_noughts_and_others(self):
        sealed = dict(zip(COLUMNS, sealed_run(11, machine_of("ifnought a 2\nhalt\nifnought b 4\n"), (0, 3, 5), 2)))
        self.assertEqual([sealed[name] for name in ("x", "is", "inv")], [(0, 3, 0, 0), (1, 0, 1, 1), (0, 4, 0, 0)])
        self.assertEqual([sealed[name] for name in ("r2", "r1", "r0")], [(0, 0, 0, 0), (0, 1, 1, 1), (0, 0, 1, 1)])
        self.assertEqual([sealed[name] for name in ("n2", "n1", "n0")], [(0, 0, 0, 0), (1, 1, 1, 1), (0, 1, 1, 1)])
        self.assertEqual(sealed["spare"], (0, 0, 0, 0))

    def test_names(self):
        machine = machine_of("add a b\ngoto 0\n")
        for names in range(5):
            sealed = sealed_run(11, machine, (1, 2, 3), names)
            self.assertEqual([len(column) for column in sealed], [2 ** names] * 16)

    def test_wrong_inputs(self):
        machine = machine_of("add a b\n")
        for wrong in wrong_great_primes():
            self.fails(BadPrime, {}, sealed_run, wrong, machine, (1, 2, 3), 2)
        for wrong in wrong_machines():
            self.fails(NoMachine, {}, sealed_run, 11, wrong, (1, 2, 3), 2)
        for wrong in wrong_triples_of(11):
            self.fails(BadFirst, {}, sealed_run, 11, machine, wrong, 2)
        for wrong in wrong_many(4):
            self.fails(BadMany, {}, sealed_run, 11, machine, (1, 2, 3), wrong)


class AskTest(PointCase):
    def test_drawn_ones(self):
        for p in PRIMES:
            for names in range(5):
                sealed = tuple(numbers_for(p, names * 20 + at, 2 ** names) for at in range(16))
                for at, name in enumerate(NAMES):
                    point = numbers_for(p, at + names, names)
                    self.tells(plain_spread(p, sealed[at], point), ask, p, sealed, name, point)
                    self.tells(sealed[at][0], ask, p, sealed, name, (0,) * names)
                    self.tells(sealed[at][-1], ask, p, sealed, name, (1,) * names)

    def test_wrong_inputs(self):
        sealed = sealed_run(11, machine_of(TEXT), (1, 2, 3), 2)
        for wrong in wrong_great_primes():
            self.fails(BadPrime, {}, ask, wrong, sealed, "a", (1, 2))
        for names in (0, 1, 2, 4):
            for wrong in wrong_sealed(11, names):
                self.fails(BadSealed, {}, ask, 11, wrong, "a", (1,) * names)
        for wrong in any_values() + bad_tuples() + [0, 3, HUGE, "A", "d", "r", "r3", "r2 ", " a", "is ", "ab", ("a",), ["a"], COLUMNS]:
            if wrong != "x":
                self.fails(BadColumn, {}, ask, 11, sealed, wrong, (1, 2))
        for wrong in wrong_points(11, 24) + [(), (1,), (1, 2, 3), (1,) * 24]:
            self.fails(BadPoint, {}, ask, 11, sealed, "a", wrong)
        one = sealed_run(11, machine_of(TEXT), (1, 2, 3), 0)
        self.tells(1, ask, 11, one, "a", ())
        self.fails(BadPoint, {}, ask, 11, one, "a", (1,))

    def test_sizes(self):
        for size in (1, 2, 4, 8, 16):
            self.tells(3, ask, 11, ((3,) * size,) * 16, "spare", (5,) * (size.bit_length() - 1))
        for many in (15, 17):
            self.fails(BadSealed, {}, ask, 11, ((3,) * 2,) * many, "a", (1,))
        self.fails(BadSealed, {}, ask, 11, ((3,) * 2,) * 15 + ((3,) * 4,), "a", (1,))
        self.fails(BadSealed, {}, ask, 11, ((3,) * 4,) + ((3,) * 2,) * 15, "a", (1, 2))
        self.fails(BadSealed, {}, ask, 11, ((3,) * 32,) * 16, "a", (1,) * 5)


class RulesTest(PointCase):
    def test_what_they_are(self):
        for p in (11, BIG):
            for text in drawn_machines():
                rules = row_rules(p, machine_of(text))
                self.assertEqual((type(rules), len(rules)), (tuple, 14))
                for rule in rules:
                    self.assertTrue(is_rule(p, 16, rule))
                    self.assertEqual(told_degrees(16, rule)[15], 0)

    def test_values_at_all_points(self):
        for p in PRIMES:
            for seed, text in enumerate(drawn_machines()):
                rules = row_rules(p, machine_of(text))
                bits = tuple(number % 2 for number in numbers_for(p, seed, 16))
                for point in (numbers_for(p, seed * 5, 16), numbers_for(p, seed * 5 + 1, 16), bits):
                    self.assertEqual(rule_values(p, rules, point), plain_row_rules(p, text, point))
        self.tells(row_rules(11, machine_of(TEXT)), row_rules, 11, machine_of(TEXT))

    def test_nought_at_true_standings(self):
        for p in (11, 10007):
            for seed, text in enumerate(drawn_machines()):
                rules, rows = row_rules(p, machine_of(text)), text.splitlines()
                for standing in some_standings(p, seed)[seed % 3::3]:
                    self.assertEqual(rule_values(p, rules, plain_entries(p, rows, standing)), (0,) * 14)

    def test_not_all_nought_at_other_next_ones(self):
        p = 11
        for seed, text in enumerate(drawn_machines()):
            rules, rows = row_rules(p, machine_of(text)), text.splitlines()
            for standing in some_standings(p, seed)[seed % 11::11]:
                right = plain_entries(p, rows, standing)
                for row in range(8):
                    bits = tuple(int(sign) for sign in f"{row:03b}")
                    told = rule_values(p, rules, right[:6] + bits + right[9:])
                    self.assertEqual(any(told), bits != right[6:9])
                for at in range(9, 12):
                    for by in (1, 3, p - 1):
                        bent = right[:at] + ((right[at] + by) % p,) + right[at + 1:]
                        self.assertTrue(any(rule_values(p, rules, bent)))

    def test_bent_in_each_column(self):
        p = 13
        for seed, text in enumerate(drawn_machines()):
            rules, rows = row_rules(p, machine_of(text)), text.splitlines()
            for standing in some_standings(p, seed)[seed % 13::13]:
                right = plain_entries(p, rows, standing)
                for at in range(16):
                    for by in (1, p - 3):
                        bent = right[:at] + ((right[at] + by) % p,) + right[at + 1:]
                        told = rule_values(p, rules, bent)
                        self.assertEqual(told, plain_row_rules(p, text, bent))
                        if at in (6, 7, 8, 9, 10, 11, 12, 14):
                            self.assertTrue(any(told))
                        if at == 15 or at == 13 and right[14] == 0:
                            self.assertFalse(any(told))

    def test_bits_that_are_none(self):
        told = rule_values(11, row_rules(11, machine_of("halt\n")), (2, 3, 4) + (0,) * 3 + (5, 6, 7) + (0,) * 7)
        self.assertEqual(told[:6], (2, 6, 1, 9, 8, 9))

    def test_wrong_inputs(self):
        for wrong in wrong_great_primes():
            self.fails(BadPrime, {}, row_rules, wrong, machine_of(TEXT))
        for wrong in wrong_machines():
            self.fails(NoMachine, {}, row_rules, 11, wrong)


MACHINE = machine_of(TEXT)
SEALED = sealed_run(11, MACHINE, (1, 2, 3), 2)
BAD_P = (None, True, "11", 9, 5, 7, [11], HUGE)
BAD_MACHINE = (None, (), (("halt",),) * 7, [("halt",)] * 8, "halt\n", (("set", 0, True),) + (("halt",),) * 7, 1)
BAD_TRIPLE = (None, (1, 2), (1, 2, 11), [1, 2, 3], (True, 1, 2), "123", (1, 2, 3, 4), 1)
BAD_MANY = (None, True, -1, 5, "2", (2,), [2], HUGE)
BAD_SEALED = (None, (), SEALED[:15], SEALED + ((0,) * 4,), list(SEALED), ((1, 2, 3),) * 16, (SEALED[0][:2],) + SEALED[1:], 1)
BAD_COLUMN = (None, True, 0, "A", "r3", ("a",), ["a"], "")
BAD_POINT = (None, (), (1,), (1, 2, 3), (1, 11), [1, 2], (True, 1), "12", 1)
CALLS = (
    (sealed_run, (11, MACHINE, (1, 2, 3), 2), (
        (BAD_P, "BadPrime"), (BAD_MACHINE, "NoMachine"), (BAD_TRIPLE, "BadFirst"), (BAD_MANY, "BadMany"))),
    (ask, (11, SEALED, "a", (3, 4)), (
        (BAD_P, "BadPrime"), (BAD_SEALED, "BadSealed"), (BAD_COLUMN, "BadColumn"), (BAD_POINT, "BadPoint"))),
    (row_rules, (11, MACHINE), ((BAD_P, "BadPrime"), (BAD_MACHINE, "NoMachine"))),
)


class OrderTest(PointCase):
    def test_several_wrong_arguments(self):
        self.first_errors(CALLS)

    def test_nothing_is_left_behind(self):
        self.nothing_left_behind(CALLS)
        self.same_backward([(function, right) for function, right, _ in CALLS])


if __name__ == "__main__":
    unittest.main()
