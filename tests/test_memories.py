"""Points [1], [32] and [33]: memory logs and their judge."""

import unittest
from fractions import Fraction
from itertools import product

from pointsenough.bags import bag_product, is_same_bag
from pointsenough.errors import BadDeeds, BadFirst, BadLast, BadNumber, BadPrime
from pointsenough.memories import is_true_log, late, log_judged, log_loss, mended_log, put_bag, taken_bag
from tests.support import (
    BIG, HUGE, PointCase, any_values, bad_tuples, numbers_for, wrong_numbers, wrong_primes,
)

FIRST, DEEDS, LAST = (7, 8), ((0, 7, 0, 5), (0, 5, 1, 5), (1, 8, 0, 9)), ((5, 2), (9, 3))


def plain_log(first, steps):
    """The deeds and the last of steps (cell, new), new None for a read, told by going back through the deeds."""
    deeds = []

    def found(cell):
        for at in range(len(deeds), 0, -1):
            if deeds[at - 1][0] == cell:
                return deeds[at - 1][3], at
        return first[cell], 0
    for cell, new in steps:
        old, told = found(cell)
        deeds.append((cell, old, told, old if new is None else new))
    return tuple(deeds), tuple(found(cell) for cell in range(len(first)))


def drawn_log(p, seed, cells, many):
    """A true log that looks drawn: (first, deeds, last)."""
    first = numbers_for(p, seed, cells)
    numbers = numbers_for(1000003, seed + 77, 3 * many)
    steps = []
    for at in range(many):
        cell, kind, new = numbers[3 * at:3 * at + 3]
        steps.append((cell % min(cells, p), None if kind % 3 == 0 else new % p))
    return (first, *plain_log(first, steps))


def put(items, at, item):
    return items[:at] + (item,) + items[at + 1:]


def bent_logs(log, numbers):
    """All logs in which one number of the deeds' old values, told times and new values or of the last is another."""
    first, deeds, last = log
    told = []
    for at, deed in enumerate(deeds):
        for part in (1, 2, 3):
            told += [(first, put(deeds, at, put(deed, part, n)), last) for n in numbers if n != deed[part]]
    for at, pair in enumerate(last):
        for part in (0, 1):
            told += [(first, deeds, put(last, at, put(pair, part, n))) for n in numbers if n != pair[part]]
    return told


def plain_judged(p, first, deeds, last, z, w):
    for at, deed in enumerate(deeds):
        if deed[2] >= at + 1:
            return ("caught", at, "time")
    given = [(cell, value, 0) for cell, value in enumerate(first)]
    given += [(deed[0], deed[3], at) for at, deed in enumerate(deeds, 1)]
    gone = [deed[:3] for deed in deeds] + [(cell, *pair) for cell, pair in enumerate(last)]
    products = []
    for bag in (given, gone):
        told = 1
        for cell, number, time in bag:
            told = told * (z - cell - number * w - time * w * w) % p
        products.append(told)
    return ("passed",) if products[0] == products[1] else ("caught", len(deeds), "bags")


def wholes(p):
    """What are no numbers, or no integers from 0 on where p is None."""
    return any_values() + [-HUGE, -1] + ([] if p is None else [p, p + 1, HUGE])


def wrong_firsts(p):
    told = [value for value in any_values() + bad_tuples()] + [0, 1, HUGE, (), (1,) * 17, (0,) * 30, [7, 8], {7: 8}, "78"]
    told += [(7, 8)[:1] + (wrong,) for wrong in wholes(p)] + [(wrong,) for wrong in wholes(p)]
    told = [value for value in told if value not in [(HUGE,), (1, HUGE), (HUGE, 1), (BIG, 1), (1, BIG)]]
    return told + [((7, 8),), (1,) * 15 + (-1,), (1,) * 16 + (-1,), (True,) * 2]


def wrong_deeds(p, cells=2):
    """What are no deeds over two cells, or over any where cells is None."""
    told = [value for value in any_values() + bad_tuples() if value != ()]
    told += [0, 1, HUGE, [], {}, DEEDS[0], [DEEDS[0]], {DEEDS[0]: 1}, ((0, 7, 0, 5),) * 61, ((0, 7, 0, 5),) * 100]
    bad = [(), (0,), (0, 7, 0), (0, 7, 0, 5, 1), [0, 7, 0, 5], {0: 1, 7: 2, 8: 3, 9: 4}, "0705", 0, None, ((0, 7, 0, 5),)]
    bad += [(wrong, 7, 0, 5) for wrong in wholes(p)] + [(0, wrong, 0, 5) for wrong in wholes(p)]
    bad += [(0, 7, wrong, 5) for wrong in wholes(p)] + [(0, 7, 0, wrong) for wrong in wholes(p)]
    if cells is not None:
        bad += [(2, 7, 0, 5), (3, 7, 0, 5), (15, 7, 0, 5), (16, 7, 0, 5), (HUGE, 7, 0, 5)]
    told += [(deed,) for deed in bad] + [(DEEDS[0], deed) for deed in bad]
    if p is not None:
        told += [((0, 7 % p, 0, 5 % p),) * many for many in (p, p + 1) if many <= 60]
    return told


def wrong_lasts(p, cells=2):
    """What is no last of two cells, or of some where cells is None."""
    told = any_values() + bad_tuples() + [0, 1, HUGE, (), [(5, 2), (9, 3)], {(5, 2): (9, 3)}, ((5, 2),) * 17, (5, 2)]
    if cells is not None:
        told += [((5, 2),), ((5, 2),) * 3, ((5, 2),) * 16]
    bad = [(), (5,), (5, 2, 1), [5, 2], {5: 2, 6: 3}, "52", 5, None, ((5, 2),)]
    bad += [(wrong, 2) for wrong in wholes(p)] + [(5, wrong) for wrong in wholes(p)]
    return told + [((5, 2), pair) for pair in bad] + [(pair, (5, 2)) for pair in bad]


class ExamplesTest(PointCase):
    def test_examples(self):
        self.tells(True, is_true_log, FIRST, DEEDS, LAST)
        self.tells(((0, 7, 0), (1, 8, 0), (0, 5, 1), (0, 5, 2), (1, 9, 3)), put_bag, FIRST, DEEDS)
        self.tells(((0, 7, 0), (0, 5, 1), (1, 8, 0), (0, 5, 2), (1, 9, 3)), taken_bag, DEEDS, LAST)
        self.tells(None, late, DEEDS)
        self.tells(("passed",), log_judged, 101, FIRST, DEEDS, LAST, 3, 4)
        self.tells((10, 101), log_loss, 101, FIRST, DEEDS)
        self.tells((DEEDS, LAST), mended_log, (7, 8), ((0, 0, 0, 5), (0, 3, 0, 3), (1, 0, 9, 9)))


class TrueLogTest(PointCase):
    def test_drawn_ones(self):
        for cells in (1, 2, 3, 16):
            for many in (0, 1, 2, 5, 60):
                first, deeds, last = drawn_log(BIG, cells + many, cells, many)
                self.tells(True, is_true_log, first, deeds, last)

    def test_bent_ones(self):
        for seed in range(4):
            log = drawn_log(5, seed, 2, 4)
            for bent in bent_logs(log, range(6)):
                # A new value or a last one may be told otherwise only where nothing else hangs on it.
                steps = [(deed[0], deed[3]) for deed in bent[1]]
                true = plain_log(bent[0], steps) == bent[1:]
                self.tells(true, is_true_log, *bent)

    def test_true_exactly_if_none_is_late_and_bags_are_the_same(self):
        two = [((0, 1), deeds, last) for deeds in product(product((0, 1), (0, 1), (0, 1, 2), (0, 1)), repeat=2)
               for last in product(product((0, 1), (0, 1, 2)), repeat=2)]
        one = [((3,), tuple((0, *deed) for deed in deeds), (last,))
               for deeds in product(product((3, 4), (0, 1, 2), (3, 4)), repeat=3) for last in product((3, 4), (1, 2, 3))]
        trues = 0
        for first, deeds, last in two + one:
            told = is_true_log(first, deeds, last)
            trues += told
            same = is_same_bag(put_bag(first, deeds), taken_bag(deeds, last))
            self.assertEqual(told, late(deeds) is None and same, (first, deeds, last))
            self.assertEqual(told, plain_log(first, [(deed[0], deed[3]) for deed in deeds]) == (deeds, last))
        self.assertEqual(trues, 2 ** 2 * 2 ** 2 + 2 ** 3)

    def test_all_bent_ones(self):
        for seed in range(6):
            log = drawn_log(7, seed, 1 + seed % 3, 3 + seed)
            for first, deeds, last in [log] + bent_logs(log, range(8)):
                same = is_same_bag(put_bag(first, deeds), taken_bag(deeds, last))
                self.assertEqual(is_true_log(first, deeds, last), late(deeds) is None and same)

    def test_bent_by_hand(self):
        for deeds, last in (
                (put(DEEDS, 0, (0, 6, 0, 5)), LAST), (put(DEEDS, 1, (0, 5, 0, 5)), LAST),
                (put(DEEDS, 1, (0, 5, 2, 5)), LAST), (put(DEEDS, 1, (0, 5, 1, 6)), LAST),
                (put(DEEDS, 2, (0, 8, 0, 9)), LAST), (DEEDS, ((5, 1), (9, 3))), (DEEDS, ((6, 2), (9, 3))),
                (DEEDS, ((9, 3), (5, 2))), (DEEDS, LAST[:1]), (DEEDS, LAST + ((0, 0),)), (DEEDS[:2], LAST), ((), LAST)):
            self.tells(False, is_true_log, FIRST, deeds, last)
        self.tells(False, is_true_log, (7, 9), DEEDS, LAST)
        self.tells(True, is_true_log, FIRST, (), ((7, 0), (8, 0)))

    def test_integers_from_nought_on(self):
        for value in (0, 5, BIG, HUGE):
            self.tells(True, is_true_log, (value,), ((0, value, 0, value + 1),), ((value + 1, 1),))
            self.tells(False, is_true_log, (value,), ((0, value, 0, value + 1),), ((value, 1),))
            self.tells(False, is_true_log, (value,), ((0, value, HUGE, value + 1),), ((value + 1, 1),))

    def test_sizes(self):
        sixteen = drawn_log(BIG, 1, 16, 60)
        self.tells(True, is_true_log, *sixteen)
        first = (1,) * 17
        self.tells(False, is_true_log, first, (), ((1, 0),) * 17)
        self.tells(False, is_true_log, (), (), ())
        deeds, last = plain_log((1,), [(0, None)] * 61)
        self.tells(False, is_true_log, (1,), deeds, last)
        deeds, last = plain_log((1,), [(0, None)] * 60)
        self.tells(True, is_true_log, (1,), deeds, last)

    def test_any_values(self):
        for wrong in wrong_firsts(None):
            self.tells(False, is_true_log, wrong, DEEDS, LAST)
            self.tells(False, is_true_log, wrong, (), ())
        for wrong in wrong_deeds(None):
            self.tells(False, is_true_log, FIRST, wrong, LAST)
        for wrong in wrong_lasts(None):
            self.tells(False, is_true_log, FIRST, DEEDS, wrong)
            self.tells(False, is_true_log, wrong, wrong, wrong)
        self.tells(False, is_true_log, (True,), (), ((True, 0),))
        self.tells(False, is_true_log, (1,), ((0, 1, False, 1),), ((1, 1),))


class BagsTest(PointCase):
    def test_drawn_ones(self):
        for cells in (1, 2, 16):
            for many in (0, 1, 60):
                first, deeds, last = drawn_log(BIG, many + cells, cells, many)
                given = [(cell, first[cell], 0) for cell in range(cells)]
                given += [(deeds[at][0], deeds[at][3], at + 1) for at in range(many)]
                self.tells(tuple(given), put_bag, first, deeds)
                gone = [deed[:3] for deed in deeds] + [(cell, *last[cell]) for cell in range(cells)]
                self.tells(tuple(gone), taken_bag, deeds, last)

    def test_false_logs_have_bags_too(self):
        self.tells(((0, 1, 0), (0, 4, 1)), put_bag, (1,), ((0, 2, 3, 4),))
        self.tells(((0, 2, 3), (0, HUGE, 9)), taken_bag, ((0, 2, 3, 4),), ((HUGE, 9),))

    def test_wrong_inputs(self):
        for wrong in wrong_firsts(None):
            self.fails(BadFirst, {}, put_bag, wrong, ())
        for wrong in wrong_deeds(None):
            self.fails(BadDeeds, {}, put_bag, FIRST, wrong)
            self.fails(BadDeeds, {}, taken_bag, wrong, LAST)
        for wrong in wrong_lasts(None, None):
            self.fails(BadLast, {}, taken_bag, (), wrong)
        self.fails(BadDeeds, {}, taken_bag, DEEDS, LAST[:1])
        self.fails(BadLast, {}, taken_bag, DEEDS, ((5, -1),))


class LateTest(PointCase):
    def test_told_times_below_at_and_above(self):
        for told, index in ((0, None), (1, 0), (2, 0), (HUGE, 0)):
            self.tells(index, late, ((0, 1, told, 2),))
        for told, index in ((0, None), (1, None), (2, 1), (3, 1), (60, 1)):
            self.tells(index, late, ((0, 1, 0, 2), (0, 2, told, 3), (0, 3, 9, 3)) if index else ((0, 1, 0, 2), (0, 2, told, 3)))
        self.tells(None, late, ())

    def test_the_first_late_one(self):
        self.tells(0, late, ((0, 1, 5, 2), (0, 1, 5, 2)))
        self.tells(1, late, ((0, 1, 0, 2), (0, 1, 2, 2), (0, 1, 3, 2)))
        self.tells(2, late, ((0, 1, 0, 2), (0, 1, 1, 2), (0, 1, 3, 2)))
        self.tells(59, late, tuple((0, 1, at, 1) for at in range(59)) + ((0, 1, 60, 1),))
        self.tells(None, late, tuple((0, 1, at, 1) for at in range(60)))

    def test_wrong_inputs(self):
        for wrong in wrong_deeds(None, None):
            self.fails(BadDeeds, {}, late, wrong)


class JudgedTest(PointCase):
    def test_true_logs_pass_everywhere(self):
        for p in (5, 7, 11):
            for seed in range(4):
                log = drawn_log(p, seed, 1 + seed, min(3 + seed, p - 1))
                for z in range(p):
                    for w in range(p):
                        self.assertEqual(log_judged(p, *log, z, w), ("passed",))

    def test_drawn_ones(self):
        for p in (5, 7, 11, 101, BIG):
            for seed in range(3):
                log = drawn_log(p, seed, 2 + seed, 4)
                z, w = numbers_for(p, seed + 5, 2)
                self.tells(("passed",), log_judged, p, *log, z, w)
                for bent in bent_logs(log, range(5)):
                    self.tells(plain_judged(p, *bent, z, w), log_judged, p, *bent, z, w)

    def test_late_ones_are_caught_first(self):
        for at in range(3):
            for told in (at + 1, at + 2, 100):
                deeds = put(DEEDS, at, put(DEEDS[at], 2, told))
                self.tells(("caught", at, "time"), log_judged, 101, FIRST, deeds, ((0, 0), (0, 0)), 3, 4)
        self.tells(("caught", 3, "bags"), log_judged, 101, FIRST, DEEDS, ((5, 2), (9, 4)), 3, 4)
        self.tells(("caught", 0, "bags"), log_judged, 101, FIRST, (), ((7, 0), (9, 0)), 3, 4)

    def test_false_logs_pass_at_no_more_pairs_than_told(self):
        for p, cells, many in ((5, 1, 0), (5, 1, 1), (7, 1, 1), (7, 2, 1), (11, 1, 2), (11, 2, 2), (13, 1, 1)):
            log = drawn_log(p, p + cells, cells, many)
            most = Fraction(*log_loss(p, *log[:2]))
            for bent in bent_logs(log, range(min(p, 4))):
                passes = sum(log_judged(p, *bent, z, w) == ("passed",) for z in range(p) for w in range(p))
                if is_true_log(*bent):
                    self.assertEqual(passes, p * p)
                else:
                    self.assertLessEqual(Fraction(passes, p * p), most)

    def test_by_the_products(self):
        p = 23
        log = drawn_log(p, 3, 3, 6)
        for bent in bent_logs(log, (0, 1, 5)):
            for z, w in ((3, 4), (0, 0), (22, 1)):
                if late(bent[1]) is None:
                    same = bag_product(p, put_bag(*bent[:2]), z, w) == bag_product(p, taken_bag(*bent[1:]), z, w)
                    self.tells(("passed",) if same else ("caught", 6, "bags"), log_judged, p, *bent, z, w)

    def test_less_than_p_deeds(self):
        for p in (5, 7, 59):
            log = drawn_log(p, 1, 2, p - 1)
            self.tells(("passed",), log_judged, p, *log, 3, 4)
            log_loss(p, *log[:2])
            more = drawn_log(p, 1, 2, p)
            self.fails(BadDeeds, {}, log_judged, p, *more, 3, 4)
            self.fails(BadDeeds, {}, log_loss, p, *more[:2])
            self.assertTrue(is_true_log(*more))
        longest = drawn_log(61, 1, 16, 60)
        self.tells(("passed",), log_judged, 61, *longest, 3, 4)

    def test_cells_that_are_no_numbers(self):
        first = (1, 2, 3, 4, 0, 1, 2)
        last = tuple((value, 0) for value in first)
        self.tells(("passed",), log_judged, 5, first, (), last, 3, 4)
        self.fails(BadDeeds, {}, log_judged, 5, first, ((5, 1, 0, 1),), put(last, 5, (1, 1)), 3, 4)
        self.tells(("passed",), log_judged, 7, first, ((5, 1, 0, 1),), put(last, 5, (1, 1)), 3, 4)

    def test_wrong_inputs(self):
        for wrong in wrong_primes():
            self.fails(BadPrime, {}, log_judged, wrong, FIRST, DEEDS, LAST, 3, 4)
            self.fails(BadPrime, {}, log_loss, wrong, FIRST, DEEDS)
        for p in (11, 101):
            for wrong in wrong_firsts(p) + [(p,), (1, p), (p, 1), (1, HUGE)]:
                self.fails(BadFirst, {}, log_judged, p, wrong, DEEDS, LAST, 3, 4)
                self.fails(BadFirst, {}, log_loss, p, wrong, DEEDS)
            for wrong in wrong_deeds(p):
                self.fails(BadDeeds, {}, log_judged, p, FIRST, wrong, LAST, 3, 4)
                self.fails(BadDeeds, {}, log_loss, p, FIRST, wrong)
            for wrong in wrong_lasts(p):
                self.fails(BadLast, {}, log_judged, p, FIRST, DEEDS, wrong, 3, 4)
            for wrong in wrong_numbers(p):
                self.fails(BadNumber, {}, log_judged, p, FIRST, DEEDS, LAST, wrong, 4)
                self.fails(BadNumber, {}, log_judged, p, FIRST, DEEDS, LAST, 3, wrong)


class LossTest(PointCase):
    def test_drawn_ones(self):
        for p in (5, 7, 11, 101, 10007, BIG):
            for cells in (1, 2, 3, 16):
                for many in (0, 1, 4):
                    log = drawn_log(p, cells, cells, many)
                    told = min(Fraction(2 * (cells + many), p), Fraction(1))
                    self.tells((told.numerator, told.denominator), log_loss, p, *log[:2])

    def test_at_one(self):
        self.tells((4, 5), log_loss, 5, (1, 2), ())
        self.tells((1, 1), log_loss, 5, (1, 2, 3), ())
        self.tells((1, 1), log_loss, 5, (1,), ((0, 1, 0, 1),) * 4)
        self.tells((1, 1), log_loss, 7, (1,) * 16, ())
        self.tells((6, 7), log_loss, 7, (1, 2), ((1, 1, 1, 1),))


class MendedTest(PointCase):
    def test_drawn_ones(self):
        for cells in (1, 2, 3, 16):
            for many in (0, 1, 7, 60):
                first = numbers_for(BIG, cells, cells)
                numbers = numbers_for(1000003, many + cells, 5 * many)
                deeds, steps = [], []
                for at in range(many):
                    cell, old, told, new, kind = numbers[5 * at:5 * at + 5]
                    new = old if kind % 3 == 0 else new
                    deeds.append((cell % cells, old, told, new))
                    steps.append((cell % cells, None if new == old else new))
                log = self.tells(plain_log(first, steps), mended_log, first, tuple(deeds))
                self.assertTrue(is_true_log(first, *log))

    def test_reads_of_the_old_value_and_of_others(self):
        self.tells((((0, 7, 0, 7),), ((7, 1),)), mended_log, (7,), ((0, 7, 9, 7),))
        self.tells((((0, 7, 0, 7),), ((7, 1),)), mended_log, (7,), ((0, 3, 9, 3),))
        # What is put isn't a read only because it is what the memory has.
        self.tells((((0, 7, 0, 7), (0, 7, 1, 4)), ((4, 2),)), mended_log, (7,), ((0, 3, 0, 7), (0, 7, 0, 4)))
        self.tells((((0, 7, 0, 4), (0, 4, 1, 4)), ((4, 2),)), mended_log, (7,), ((0, 7, 0, 4), (0, 7, 0, 7)))
        self.tells(((), ((HUGE, 0),)), mended_log, (HUGE,), ())

    def test_true_logs_stay(self):
        for seed in range(8):
            first, deeds, last = drawn_log(BIG, seed, 3, 20)
            self.tells((deeds, last), mended_log, first, deeds)

    def test_wrong_inputs(self):
        for wrong in wrong_firsts(None):
            self.fails(BadFirst, {}, mended_log, wrong, ())
        for wrong in wrong_deeds(None):
            self.fails(BadDeeds, {}, mended_log, FIRST, wrong)


BAD_P = (None, True, "7", 9, 3, [7], HUGE)
BAD_FIRST = (None, (), (7, -1), [7, 8], (7, True), "78", (1,) * 17, 7)
BAD_DEEDS = (None, ((2, 7, 0, 5),), [DEEDS[0]], ((0, 7, 0),), ((0, 7, -1, 5),), (DEEDS[0],) * 61, ((True, 7, 0, 5),), 1)
BAD_LAST = (None, (), ((5, 2), (9, -3)), [(5, 2), (9, 3)], ((5, 2), (9,)), ((5, 2), (9, True)), ((5, 2),) * 17, 5)
BAD_NUMBER = (None, True, 101, -1, "1", (1,), [1], HUGE)
CALLS = (
    (put_bag, (FIRST, DEEDS), ((BAD_FIRST, "BadFirst"), (BAD_DEEDS, "BadDeeds"))),
    (taken_bag, (DEEDS, LAST), ((BAD_DEEDS[2:], "BadDeeds"), (BAD_LAST, "BadLast"))),
    (late, (DEEDS,), ((BAD_DEEDS[2:], "BadDeeds"),)),
    (log_judged, (101, FIRST, DEEDS, LAST, 3, 4), (
        (BAD_P, "BadPrime"), (BAD_FIRST, "BadFirst"), (BAD_DEEDS, "BadDeeds"), (BAD_LAST + (LAST[:1],), "BadLast"),
        (BAD_NUMBER, "BadNumber"), (BAD_NUMBER, "BadNumber"))),
    (log_loss, (101, FIRST, DEEDS), ((BAD_P, "BadPrime"), (BAD_FIRST, "BadFirst"), (BAD_DEEDS, "BadDeeds"))),
    (mended_log, (FIRST, DEEDS), ((BAD_FIRST, "BadFirst"), (BAD_DEEDS, "BadDeeds"))),
    (is_true_log, (FIRST, DEEDS, LAST), ((BAD_FIRST, None), (BAD_DEEDS, None), (BAD_LAST, None))),
)


class OrderTest(PointCase):
    def test_several_wrong_arguments(self):
        self.first_errors(CALLS)

    def test_nothing_is_left_behind(self):
        self.nothing_left_behind(CALLS)
        self.same_backward([(function, right) for function, right, _ in CALLS])


if __name__ == "__main__":
    unittest.main()
