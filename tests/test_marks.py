"""Points [1], [23] and [24]: claims with marks, and their judge."""

import unittest
from fractions import Fraction
from itertools import product

from pointsenough.errors import BadDraws, BadMarked
from pointsenough.forms import form_rule, solutions
from pointsenough.lines import is_line
from pointsenough.marks import is_marked, marked_judged, marked_line, marked_loss, rounds_of, worth
from tests.support import (
    BIG, HUGE, NUMBER, PointCase, any_values, bad_tuples, bits_rows, deep_rule, form_for, most_passes, numbers_for,
    plain_degrees, plain_rule, plain_sum, plain_value, plus_tree, power_rule, rule_for, wrong_draws, wrong_lines,
    wrong_numbers, wrong_primes, wrong_rules,
)

PRIMES = (5, 7, 11, 10007, BIG)
XOR = form_rule(7, ("xor", ("name", 0), ("name", 1)))
MARKED = (7, ("all", "some"), XOR, 1)


def marks_rows(many):
    return list(product(("all", "some"), repeat=many))


def plain_worth(p, marks, rule, ahead=()):
    """The worth with the names ahead put to numbers, by the words of the document."""
    if len(ahead) == len(marks):
        return plain_rule(p, rule, ahead)
    low, high = (plain_worth(p, marks, rule, ahead + (bit,)) for bit in (0, 1))
    return (low * high if marks[len(ahead)] == "all" else low + high - low * high) % p


def plain_rounds(marks, rule):
    told, degrees = [], plain_degrees(len(marks), rule)
    for i, mark in enumerate(marks):
        told.append((mark, i, 1))
        for j in range(i + 1):
            told.append(("lower", j, 2 if i + 1 < len(marks) else degrees[j]))
    return tuple(told)


def plain_within(p, marks, rule, at, numbers):
    """The value of what stands within the round at an index, from the last round outward, round by round."""
    rounds = plain_rounds(marks, rule)
    if at == len(rounds) - 1:
        return plain_rule(p, rule, numbers)
    word, name, _ = rounds[at + 1]
    if word == "lower":
        low, high = (plain_within(p, marks, rule, at + 1, numbers[:name] + (bit,) + numbers[name + 1:]) for bit in (0, 1))
        return ((1 - numbers[name]) * low + numbers[name] * high) % p
    low, high = (plain_within(p, marks, rule, at + 1, numbers + (bit,)) for bit in (0, 1))
    return (low * high if word == "all" else low + high - low * high) % p


def names_numbers(marks, rule, draws):
    """The last number of each name behind draws."""
    numbers = {}
    for (_, name, _), draw in zip(plain_rounds(marks, rule), draws):
        numbers[name] = draw
    return tuple(numbers[name] for name in sorted(numbers))


def plain_marked_judged(marked, lines, draws):
    """What the judge says, by the words of the document."""
    p, marks, rule, so_far = marked
    rounds = plain_rounds(marks, rule)
    if not isinstance(lines, (tuple, list)):
        return ("caught", 0, "line")
    for at, (word, name, degree) in enumerate(rounds):
        if at >= len(lines) or not is_line(p, lines[at]):
            return ("caught", at, "line")
        if len(lines[at]) - 1 > degree:
            return ("caught", at, "degree")
        low, high = plain_value(p, lines[at], 0), plain_value(p, lines[at], 1)
        if word == "lower":
            number = names_numbers(marks, rule, draws[:at])[name]
            told = (1 - number) * low + number * high
        else:
            told = low * high if word == "all" else low + high - low * high
        if told % p != so_far:
            return ("caught", at, "rule")
        so_far = plain_value(p, lines[at], draws[at])
    if len(lines) > len(rounds):
        return ("caught", len(rounds), "line")
    if plain_rule(p, rule, names_numbers(marks, rule, draws)) != so_far:
        return ("caught", len(rounds), "end")
    return ("passed",)


def marked_for(p, marks, seed, deep=3):
    """A right claim with these marks and a rule that looks drawn."""
    rule = rule_for(p, len(marks), seed, deep)
    return (p, marks, rule, plain_worth(p, marks, rule))


def drawn_marked(p, most, seeds):
    told = []
    for many in range(most + 1):
        rows = marks_rows(many)
        for seed in range(seeds):
            marked = marked_for(p, rows[seed * 5 % len(rows)], seed)
            if max(plain_degrees(many, marked[2]), default=0) <= 30:
                told.append(marked)
    return told


def wronged(marked, by):
    return marked[:3] + ((marked[3] + by) % marked[0],)


def plain_lines(marked, draws):
    return tuple(marked_line(marked, draws[:k]) for k in range(len(draws)))


def wrong_marked():
    rule = ("times", ("name", 0), ("name", 1))
    marks = ("all", "some")
    told = any_values() + bad_tuples() + [0, 7, HUGE, (), (7,), (7, marks, rule), (7, marks, rule, 1, 1)]
    told += [[7, marks, rule, 1], {0: 7, 1: marks, 2: rule, 3: 1}, (marks, 7, rule, 1), (7, rule, marks, 1), (7, 2, rule, 1)]
    told += [(p, marks, rule, 1) for p in wrong_primes()]
    told += [(7, wrong, NUMBER, 1) for wrong in any_values() + bad_tuples() if wrong != ()]
    told += [(7, (wrong, "all"), rule, 1) for wrong in any_values() + [0, 1, "All", "SOME", "any", "alls", " all", b"all", ("all",)]]
    told += [(7, ("some", wrong), rule, 1) for wrong in any_values() + [0, 1, "All", "SOME", "lower", "no", "some ", ["some"]]]
    told += [(7, list(marks), rule, 1), (7, "all", NUMBER, 1), (7, ("all",) * 7, NUMBER, 1), (7, ("some",) * 8, NUMBER, 1)]
    told += [(7, ("all",), rule, 1), (7, (), rule, 1), (7, marks, ("name", 2), 1)]
    told += [(7, marks, wrong, 1) for wrong in wrong_rules(7, 2)]
    told += [(7, marks, rule, wrong) for wrong in wrong_numbers(7)]
    told += [(7, marks, power_rule(31), 1), (7, ("all",), ("times", power_rule(16), power_rule(15)), 1)]
    return told + [(5, ("some",), ("minus", NUMBER, power_rule(31)), 1), (7, ("all",), ("times", ("number", 0), power_rule(40)), 1)]


class ExamplesTest(PointCase):
    def test_examples(self):
        self.tells(1, worth, MARKED)
        self.tells(0, worth, (7, ("some", "all"), XOR, 1))
        rounds = (("all", 0, 1), ("lower", 0, 2), ("some", 1, 1), ("lower", 0, 1), ("lower", 1, 1))
        self.tells(rounds, rounds_of, MARKED)
        self.tells((10327, 16807), marked_loss, MARKED)


class IsMarkedTest(PointCase):
    def test_claims_with_marks(self):
        for p in PRIMES:
            for marked in drawn_marked(p, 6, 4):
                self.tells(True, is_marked, marked)
                self.tells(True, is_marked, wronged(marked, 1))
        for many in range(7):
            for marks in marks_rows(many):
                self.tells(True, is_marked, (7, marks, NUMBER, 0))
        self.tells(False, is_marked, (7, ("all",) * 7, NUMBER, 0))

    def test_told_degrees(self):
        self.tells(True, is_marked, (7, ("all",), power_rule(30), 0))
        self.tells(False, is_marked, (7, ("all",), power_rule(31), 0))
        self.tells(True, is_marked, (7, ("all", "all"), ("times", power_rule(30), ("name", 1)), 0))
        self.tells(False, is_marked, (7, ("all", "all"), ("times", power_rule(30), ("name", 0)), 0))

    def test_large_rules(self):
        for leaf in (NUMBER, ("name", 0)):
            self.tells(True, is_marked, (7, ("some",), plus_tree([leaf] * 1000), 0))
            self.tells(False, is_marked, (7, ("some",), plus_tree([leaf] * 1001), 0))
            self.tells(True, is_marked, (7, ("some",), deep_rule(400, leaf), 0))
            self.tells(False, is_marked, (7, ("some",), deep_rule(401, leaf), 0))

    def test_what_is_none(self):
        for value in wrong_marked():
            self.tells(False, is_marked, value)


class WorthTest(PointCase):
    def test_drawn_ones(self):
        for p in PRIMES:
            for many in range(5):
                for marks in marks_rows(many)[::3]:
                    for seed in range(4):
                        marked = marked_for(p, marks, seed)
                        if is_marked(marked):
                            self.tells(plain_worth(p, marks, marked[2]), worth, wronged(marked, seed))

    def test_forms_hold_or_not(self):
        for many in range(5):
            for marks in marks_rows(many):
                for seed in range(6):
                    form = form_for(many, seed, 3)
                    rows = set(solutions(many, form))

                    def holds(ahead):
                        if len(ahead) == many:
                            return ahead in rows
                        each = [holds(ahead + (bit,)) for bit in (0, 1)]
                        return all(each) if marks[len(ahead)] == "all" else any(each)
                    self.tells(1 if holds(()) else 0, worth, (11, marks, form_rule(11, form), 0))

    def test_other_worths_than_nought_and_one(self):
        table = ("table", (2, 3), (("name", 0),))
        self.tells(6, worth, (7, ("all",), table, 0))
        self.tells(6, worth, (7, ("some",), table, 0))
        self.tells((2 + 3 - 6) % 11, worth, (11, ("some",), table, 0))
        self.tells(4, worth, (7, (), ("number", 4), 1))
        self.tells(2, worth, (7, ("all",), ("number", 3), 1))
        self.tells(5, worth, (11, ("some",), ("table", (0, 5), (("name", 0),)), 0))

    def test_the_last_name_first(self):
        both = ("table", (2, 3, 4, 5), (("name", 0), ("name", 1)))
        p = 10007
        self.tells((2 * 3 + 4 * 5 - 2 * 3 * 4 * 5) % p, worth, (p, ("some", "all"), both, 0))
        self.tells((2 + 3 - 2 * 3) * (4 + 5 - 4 * 5) % p, worth, (p, ("all", "some"), both, 0))
        self.tells(2 * 3 * 4 * 5, worth, (p, ("all", "all"), both, 0))

    def test_six_marks(self):
        rule = form_rule(101, ("and", ("or", ("name", 0), ("name", 5)), ("xor", ("name", 1), ("name", 4))))
        for marks in marks_rows(6)[::7]:
            self.tells(plain_worth(101, marks, rule), worth, (101, marks, rule, 1))
        for number in (0, 1, 2, 100):
            self.tells(pow(number, 64, 101), worth, (101, ("all",) * 6, ("number", number), 0))
            self.tells((1 - pow(1 - number, 64, 101)) % 101, worth, (101, ("some",) * 6, ("number", number), 0))


class RoundsTest(PointCase):
    def test_drawn_ones(self):
        for p in PRIMES:
            for marked in drawn_marked(p, 6, 5):
                self.tells(plain_rounds(marked[1], marked[2]), rounds_of, marked)

    def test_edges(self):
        self.tells((), rounds_of, (7, (), NUMBER, 1))
        self.tells((("all", 0, 1), ("lower", 0, 30)), rounds_of, (5, ("all",), power_rule(30), 1))
        self.tells((("some", 0, 1), ("lower", 0, 0)), rounds_of, (5, ("some",), NUMBER, 1))
        told = rounds_of((7, ("some",) * 6, ("times", power_rule(3), ("name", 4)), 1))
        self.assertEqual(len(told), 27)
        lowered = tuple(("lower", name, degree) for name, degree in enumerate((3, 0, 0, 0, 1, 0)))
        self.assertEqual(told[20:], (("some", 5, 1),) + lowered)
        self.assertEqual(told[:3], (("some", 0, 1), ("lower", 0, 2), ("some", 1, 1)))


class MarkedLineTest(PointCase):
    def test_at_all_places_by_small_primes(self):
        for p in (5, 7):
            for marked in drawn_marked(p, 3, 6) + [(5, ("some",), power_rule(30), 1), (7, ("all",), power_rule(9), 1)]:
                self.check(marked[0], marked, range(marked[0]))

    def check(self, p, marked, places):
        _, marks, rule, _ = marked
        rounds = plain_rounds(marks, rule)
        for done, (_, name, degree) in enumerate(rounds):
            draws = numbers_for(p, done + len(marks), done)
            line = marked_line(marked, draws)
            self.assertTrue(is_line(p, line))
            self.assertLessEqual(len(line) - 1, min(degree, p - 1))
            numbers = names_numbers(marks, rule, draws)
            for place in places:
                put = numbers[:name] + (place,) + numbers[name + 1:]
                self.assertEqual(plain_value(p, line, place), plain_within(p, marks, rule, done, put))

    def test_drawn_ones(self):
        for p in (11, 10007, BIG):
            for marked in drawn_marked(p, 3, 4):
                self.check(p, marked, (0, 1, 2, 5, p - 1) + numbers_for(p, 6, 2))

    def test_least_degree(self):
        self.tells((0, 0, 1), marked_line, (5, ("all",), power_rule(30), 0), (3,))
        self.tells((0,) * 30 + (1,), marked_line, (31, ("all",), power_rule(30), 0), (3,))
        self.tells((0, 1), marked_line, (5, ("all",), power_rule(30), 0), ())
        self.tells((), marked_line, (7, ("some",), ("minus", ("name", 0), ("name", 0)), 0), ())
        self.tells((3,), marked_line, (7, ("some",), ("number", 3), 0), ())
        self.tells((3,), marked_line, (7, ("some",), ("number", 3), 0), (6,))

    def test_the_claim_does_not_matter(self):
        for claim in range(7):
            for draws in ((), (2,), (2, 3), (2, 3, 4), (2, 3, 4, 5)):
                self.assertEqual(marked_line(MARKED[:3] + (claim,), draws), marked_line(MARKED, draws))

    def test_wrong_draws(self):
        for p, many, rounds in ((7, 0, 0), (7, 1, 2), (BIG, 2, 5), (7, 6, 27)):
            marked = (p, ("all",) * many, NUMBER, 0)
            for draws in any_values() + bad_tuples() + [0, 1, HUGE, (p,), [1], (1,) * rounds, (1,) * (rounds + 1), (1,) * 40]:
                if draws != ():
                    self.fails(BadDraws, {}, marked_line, marked, draws)
        self.fails(BadDraws, {}, marked_line, (7, (), NUMBER, 1), ())
        for number in wrong_numbers(7):
            self.fails(BadDraws, {}, marked_line, MARKED, (1, number))


class JudgedTest(PointCase):
    def test_right_claims_pass_at_all_draws(self):
        rules = [("name", 0), NUMBER, power_rule(6), ("minus", power_rule(3), ("table", (2, 4), (("name", 0),)))]
        claims = [(5, (mark,), rule, plain_worth(5, (mark,), rule)) for mark in ("all", "some") for rule in rules]
        both = ("plus", ("times", ("name", 0), ("name", 1)), ("table", (1, 0, 3, 2), (("name", 1), ("name", 0))))
        claims += [(5, marks, both, plain_worth(5, marks, both)) for marks in marks_rows(2)]
        for marked in claims:
            for draws in product(range(5), repeat=len(plain_rounds(marked[1], marked[2]))):
                self.assertEqual(marked_judged(marked, plain_lines(marked, draws), draws), ("passed",))

    def test_right_claims_pass_at_drawn_draws(self):
        for p in PRIMES:
            for marked in drawn_marked(p, 4, 4):
                rounds = len(plain_rounds(marked[1], marked[2]))
                for seed in range(2):
                    draws = numbers_for(p, seed, rounds)
                    lines = plain_lines(marked, draws)
                    self.tells(("passed",), marked_judged, marked, lines, draws)
                    self.tells(("passed",), marked_judged, marked, list(lines), draws)
                    word = "rule" if rounds > 0 else "end"
                    self.tells(("caught", 0, word), marked_judged, wronged(marked, 1), lines, draws)

    def test_six_marks(self):
        rule = form_rule(101, ("and", ("or", ("name", 0), ("name", 5)), ("xor", ("name", 1), ("name", 4))))
        for marks in (("all",) * 6, ("some",) * 6, ("all", "some") * 3, ("some", "all") * 3):
            marked = (101, marks, rule, plain_worth(101, marks, rule))
            draws = numbers_for(101, 3, 27)
            lines = plain_lines(marked, draws)
            self.assertEqual(marked_judged(marked, lines, draws), ("passed",))
            for at in range(27):
                told = lines[:at] + (None,) + lines[at + 1:]
                self.assertEqual(marked_judged(marked, told, draws), ("caught", at, "line"))
                told = lines[:at] + (lines[at] + (0,) * (32 - len(lines[at])) + (1,),) + lines[at + 1:]
                self.assertEqual(marked_judged(marked, told, draws), ("caught", at, "degree"))

    def test_as_the_document_tells_it(self):
        for p in (5, 7, 10007):
            for marked in drawn_marked(p, 3, 4):
                rounds = len(plain_rounds(marked[1], marked[2]))
                draws = numbers_for(p, 2, rounds)
                lines = plain_lines(marked, draws)
                for at in range(rounds):
                    for wrong in ((), (1,), (2, 1), (0, 1, 1), (1, 2, 3, 4), (1,) * 40, None, (0,), (lines[at] or (0,))[:1] + (3,)):
                        told = lines[:at] + (wrong,) + lines[at + 1:]
                        for claimed in (marked, wronged(marked, 1)):
                            expected = plain_marked_judged(claimed, told, draws)
                            self.assertEqual(marked_judged(claimed, told, draws), expected)

    def test_each_round_caught_for_each_word(self):
        draws = (2, 3, 4, 5, 6)
        lines = plain_lines(MARKED, draws)
        self.assertEqual(marked_judged(MARKED, lines, draws), ("passed",))
        for at, (_, _, degree) in enumerate(plain_rounds(MARKED[1], XOR)):
            for wrong in wrong_lines(7):
                told = lines[:at] + (wrong,) + lines[at + 1:]
                self.tells(("caught", at, "line"), marked_judged, MARKED, told, draws)
            self.tells(("caught", at, "line"), marked_judged, MARKED, lines[:at], draws)
            longer = (lines[at] + (0,) * 5)[:degree + 1] + (1,)
            self.tells(("caught", at, "degree"), marked_judged, MARKED, lines[:at] + (longer,) + lines[at + 1:], draws)
            others = [plain_sum(7, lines[at], (by,), 1) for by in range(1, 7)]
            told = [marked_judged(MARKED, lines[:at] + (line,) + lines[at + 1:], draws) for line in others]
            self.assertIn(("caught", at, "rule"), told)
            self.assertLessEqual({caught for _, caught, _ in told}, {at, at + 1})
        self.tells(("caught", 5, "line"), marked_judged, MARKED, lines + ((),), draws)
        self.tells(("caught", 5, "line"), marked_judged, MARKED, list(lines) + [None], draws)

    def test_the_end(self):
        one = (7, ("all",), ("name", 0), 0)
        lines = ((0, 1), (0, 1))
        self.tells(("passed",), marked_judged, one, lines, (3, 4))
        # The second line has the right value between 0 and 1 at the first draw, but isn't the rule.
        self.tells(("caught", 2, "end"), marked_judged, one, ((0, 1), (3,)), (3, 4))
        self.tells(("passed",), marked_judged, one, ((0, 1), (3,)), (3, 3))
        self.tells(("caught", 2, "line"), marked_judged, one, ((0, 1), (3,), None), (3, 4))
        self.tells(("caught", 0, "rule"), marked_judged, wronged(one, 2), lines, (3, 4))

    def test_marks_rules(self):
        for mark, claim in (("all", 6), ("some", 6)):
            rule = ("table", (2, 3), (("name", 0),))
            self.tells(("passed",), marked_judged, (7, (mark,), rule, claim), ((2, 1), (2, 1)), (5, 6))
        rule = ("table", (2, 4), (("name", 0),))
        self.tells(("passed",), marked_judged, (7, ("all",), rule, 1), ((2, 2), (2, 2)), (5, 6))
        self.tells(("passed",), marked_judged, (7, ("some",), rule, 5), ((2, 2), (2, 2)), (5, 6))
        self.tells(("caught", 0, "rule"), marked_judged, (7, ("some",), rule, 1), ((2, 2), (2, 2)), (5, 6))
        self.tells(("caught", 0, "rule"), marked_judged, (7, ("all",), rule, 5), ((2, 2), (2, 2)), (5, 6))

    def test_lines_that_are_no_tuple_or_list(self):
        for lines in any_values() + [0, 1, HUGE]:
            if not isinstance(lines, (tuple, list)):
                self.tells(("caught", 0, "line"), marked_judged, MARKED, lines, (1,) * 5)
                self.tells(("caught", 0, "line"), marked_judged, (7, (), NUMBER, 1), lines, ())

    def test_no_marks(self):
        for lines in ((), []):
            self.tells(("passed",), marked_judged, (7, (), ("number", 3), 3), lines, ())
            self.tells(("caught", 0, "end"), marked_judged, (7, (), ("number", 3), 4), lines, ())
        self.tells(("caught", 0, "line"), marked_judged, (7, (), ("number", 3), 3), (None,), ())
        self.tells(("caught", 0, "line"), marked_judged, (7, (), ("number", 3), 4), [()], ())

    def test_degrees_above_the_greatest_number(self):
        marked = (5, ("all",), power_rule(30), 0)
        self.tells(("passed",), marked_judged, marked, ((0, 1), (0, 0, 1)), (3, 2))
        self.tells(("passed",), marked_judged, marked, ((0, 1), (0,) * 30 + (1,)), (3, 2))
        self.tells(("caught", 1, "degree"), marked_judged, marked, ((0, 1), (0,) * 31 + (1,)), (3, 2))
        self.tells(("caught", 2, "end"), marked_judged, marked, ((0, 1), (0, 1)), (3, 2))

    def test_no_more_draws_pass_than_the_loss(self):
        both = ("plus", ("times", ("name", 0), ("name", 1)), ("table", (1, 0, 3, 2), (("name", 1), ("name", 0))))
        claims = [(5, (mark,), rule, by) for mark in ("all", "some") for rule in (
            ("name", 0), NUMBER, ("times", ("name", 0), ("name", 0)), ("table", (2, 4), (("name", 0),))) for by in range(1, 5)]
        claims += [(5, (mark,), power_rule(3), 1) for mark in ("all", "some")]
        claims += [(5, marks, ("times", ("name", 0), ("name", 1)), 1) for marks in marks_rows(2)] + [(5, ("all", "some"), both, 2)]
        for p, marks, rule, by in claims:
            right = plain_worth(p, marks, rule)
            for claim in (right, (right + by) % p):
                marked = (p, marks, rule, claim)
                degrees = tuple(degree for _, _, degree in rounds_of(marked))

                def judge(lines, draws):
                    return marked_judged(marked, lines, draws)

                def state(draws):
                    return names_numbers(marks, rule, draws)
                passes = most_passes(p, degrees, 0, judge, state)
                top, bottom = marked_loss(marked)
                if claim == right:
                    self.assertEqual(passes, p ** len(degrees))
                else:
                    self.assertLessEqual(passes * bottom, top * p ** len(degrees))

    def test_wrong_draws(self):
        for p, many, rounds in ((7, 0, 0), (7, 1, 2), (BIG, 2, 5), (7, 6, 27)):
            marked = (p, ("some",) * many, NUMBER, 1)
            for draws in wrong_draws(p, rounds) + [(1,) * (rounds + 1), (1,) * 28]:
                for lines in ((), None, ((1,),) * rounds):
                    self.fails(BadDraws, {}, marked_judged, marked, lines, draws)


class LossTest(PointCase):
    def test_drawn_ones(self):
        for p in PRIMES:
            for marked in drawn_marked(p, 6, 4):
                kept = Fraction(1)
                for _, _, degree in plain_rounds(marked[1], marked[2]):
                    kept *= 1 - Fraction(min(degree, p - 1), p)
                self.tells(((1 - kept).numerator, (1 - kept).denominator), marked_loss, marked)
                self.tells(marked_loss(marked), marked_loss, wronged(marked, 1))

    def test_edges(self):
        self.tells((0, 1), marked_loss, (7, (), NUMBER, 1))
        self.tells((1, 7), marked_loss, (7, ("all",), NUMBER, 1))
        self.tells((21, 25), marked_loss, (5, ("all",), power_rule(4), 1))
        self.tells((21, 25), marked_loss, (5, ("all",), power_rule(30), 1))
        self.tells((10327, 16807), marked_loss, MARKED)


class NoMarkedTest(PointCase):
    def test_what_is_none(self):
        for value in wrong_marked():
            for function in (worth, rounds_of, marked_loss):
                self.fails(BadMarked, {}, function, value)
            self.fails(BadMarked, {}, marked_line, value, ())
            self.fails(BadMarked, {}, marked_judged, value, (), (1,) * 5)


class LargestRulesTest(PointCase):
    def test_large_rules(self):
        for rule in (plus_tree([("name", 0)] * 1000), deep_rule(400, ("name", 0)), power_rule(30)):
            marked = (10007, ("some",), rule, plain_worth(10007, ("some",), rule))
            lines = plain_lines(marked, (5, 6))
            self.tells(("passed",), marked_judged, marked, lines, (5, 6))


BAD_MARKED = (None, (), [7, ("all",), NUMBER, 1], (9, ("all",), NUMBER, 1), (7, ("any",), NUMBER, 1), (7, ["all"], NUMBER, 1),
              (7, ("all",), power_rule(31), 1), (7, (), ("name", 0), 1), (7, (), NUMBER, 7), 3)
BAD_DRAWS = (None, (1, 7), [1, 2], (1, True), "12", 2, (1,) * 6)
BAD_LINES = (None, ((0,),), [(1,)], {0: (1,)}, "line", 1, True)
CALLS = (
    (worth, (MARKED,), ((BAD_MARKED, "BadMarked"),)),
    (rounds_of, (MARKED,), ((BAD_MARKED, "BadMarked"),)),
    (marked_loss, (MARKED,), ((BAD_MARKED, "BadMarked"),)),
    (marked_line, (MARKED, (1, 2)), ((BAD_MARKED, "BadMarked"), (BAD_DRAWS, "BadDraws"))),
    (marked_judged, (MARKED, ((1,),), (1, 2, 3, 4, 5)), (
        (BAD_MARKED, "BadMarked"), (BAD_LINES, None), (BAD_DRAWS, "BadDraws"))),
)


class OrderTest(PointCase):
    def test_several_wrong_arguments(self):
        self.first_errors(CALLS)

    def test_nothing_is_left_behind(self):
        self.nothing_left_behind(CALLS)
        self.same_backward([(function, right) for function, right, _ in CALLS] + [(is_marked, (MARKED,))])


if __name__ == "__main__":
    unittest.main()
