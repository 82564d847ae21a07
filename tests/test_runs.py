"""Points [1] and [37]: the judge of a sealed run."""

import unittest
from fractions import Fraction

from pointsenough.errors import (
    BadDraws, BadFirst, BadMany, BadPrime, BadResult, BadSealed, NoMachine)
from pointsenough.lines import is_line, through
from pointsenough.machines import machine_of, run_of
from pointsenough.runs import run_draws, run_judged, run_lines, run_loss, run_rounds
from pointsenough.seals import sealed_run
from pointsenough.sums import best_line
from tests.support import (
    BIG, HUGE, PointCase, any_values, bits, bits_rows, drawn_machines, numbers_for, plain_row_rules, plain_spread, plain_sum,
    plain_trim, plain_value, plain_weight, wrong_draws, wrong_great_primes, wrong_lines, wrong_machines, wrong_many,
    wrong_sealed, wrong_triples_of,
)

TEXT = "set b 1\nifnought a 5\nmul b a\nadd a c\ngoto 1\n"
SHORT = "add a b\nhalt\n"


def plain_behind(p, one, row):
    """The spread of following: the weight at one of the row that is one less, none for the first row."""
    rows = bits_rows(len(one))
    at = rows.index(tuple(row))
    return plain_weight(p, rows[at - 1], one) if at > 0 else 0


def parts_of_draws(names, draws):
    """Weights and points: (weights, z, y, weights, u, v)."""
    told, rest = [], tuple(draws)
    for many in (14, names, names, 6, names, names):
        told.append(rest[:many])
        rest = rest[many:]
    return told


def summand(p, text, sealed, draws, part):
    """What is added up over all rows, at any point, of the rows' part (0) or the links' part (1)."""
    names = bits(len(sealed[0]))
    weights, z, _, factors, u, _ = parts_of_draws(names, draws)

    def rows_at(point):
        asked = tuple(plain_spread(p, column, point) for column in sealed)
        told = sum(w * number for w, number in zip(weights, plain_row_rules(p, text, asked)))
        for left, right in zip(z, point):
            told = told * (left * right + (1 - left) * (1 - right)) % p
        return told % p

    def links_at(point):
        followed = sum(plain_behind(p, u, row) * plain_weight(p, row, point) for row in bits_rows(names))
        return followed * sum(w * plain_spread(p, column, point) for w, column in zip(factors, sealed[:6])) % p
    return links_at if part else rows_at


def links_claim(p, sealed, draws):
    names = bits(len(sealed[0]))
    _, _, _, factors, u, _ = parts_of_draws(names, draws)
    told = 0
    for factor, column in zip(factors, sealed[6:12]):
        told += factor * (plain_spread(p, column, u) - column[-1] * plain_weight(p, (1,) * names, u))
    return told % p


def plain_part_line(p, text, sealed, draws, part, done):
    """The plain line of a part's round."""
    names = bits(len(sealed[0]))
    told = summand(p, text, sealed, draws, part)
    ahead = parts_of_draws(names, draws)[3 * part + 2][:done]
    points = []
    for place in range(7):
        rows = bits_rows(names - done - 1)
        points.append((place, sum(told(ahead + (place,) + row) for row in rows) % p))
    return through(p, tuple(points))


def plain_run_judged(p, text, first, result, sealed, lines, draws):
    """What the judge says, by the words of the document."""
    names = bits(len(sealed[0]))
    if [column[0] for column in sealed[:6]] != [0, 0, 0, *first]:
        return ("caught", 0, "begin")
    if tuple(column[-1] for column in sealed[3:6]) != result:
        return ("caught", 0, "result")
    if not isinstance(lines, (tuple, list)):
        return ("caught", 0, "line")
    for part, claim, degree, word in ((0, 0, 6, "rules"), (1, links_claim(p, sealed, draws), 2, "links")):
        drawn = parts_of_draws(names, draws)[3 * part + 2]
        for done, draw in enumerate(drawn):
            at = part * names + done
            if at >= len(lines) or not is_line(p, lines[at]):
                return ("caught", at, "line")
            if len(lines[at]) - 1 > degree:
                return ("caught", at, "degree")
            if (plain_value(p, lines[at], 0) + plain_value(p, lines[at], 1)) % p != claim:
                return ("caught", at, "halves")
            claim = plain_value(p, lines[at], draw)
        if part == 1 and len(lines) > 2 * names:
            return ("caught", 2 * names, "line")
        if summand(p, text, sealed, draws, part)(drawn) != claim:
            return ("caught", (part + 1) * names, word)
    return ("passed",)


def bent(sealed, column, row, by, p):
    entries = sealed[column]
    entries = entries[:row] + ((entries[row] + by) % p,) + entries[row + 1:]
    return sealed[:column] + (entries,) + sealed[column + 1:]


def put(items, at, item):
    return items[:at] + (item,) + items[at + 1:]


def result_of(p, text, first, names):
    return run_of(p, machine_of(text), first, names)[-1][1:]


class ExamplesTest(PointCase):
    def test_examples(self):
        machine = machine_of(SHORT)
        sealed = sealed_run(11, machine, (1, 2, 3), 1)
        draws = (1,) * 24
        lines = run_lines(11, machine, sealed, draws)
        self.tells(24, run_draws, 1)
        self.tells(2, run_rounds, 1)
        self.tells((831, 1331), run_loss, 11, 1)
        self.tells(("passed",), run_judged, 11, machine, (1, 2, 3), (3, 2, 3), sealed, lines, draws)
        self.tells(("caught", 0, "result"), run_judged, 11, machine, (1, 2, 3), (4, 2, 3), sealed, lines, draws)


class CountsTest(PointCase):
    def test_all(self):
        for names, draws, rounds in ((0, 20, 0), (1, 24, 2), (2, 28, 4), (3, 32, 6), (4, 36, 8)):
            self.tells(draws, run_draws, names)
            self.tells(rounds, run_rounds, names)
            for p in (11, 13, 10007, BIG):
                told = 1 - (1 - Fraction(1, p)) ** (names + 1) * (1 - Fraction(6, p)) ** names
                self.tells((told.numerator, told.denominator), run_loss, p, names)
        self.tells((1, 11), run_loss, 11, 0)

    def test_wrong_inputs(self):
        for wrong in wrong_many(4):
            self.fails(BadMany, {}, run_draws, wrong)
            self.fails(BadMany, {}, run_rounds, wrong)
            self.fails(BadMany, {}, run_loss, 11, wrong)
        for wrong in wrong_great_primes():
            self.fails(BadPrime, {}, run_loss, wrong, 1)


class LinesTest(PointCase):
    def test_as_the_document_tells_them(self):
        for p in (11, 13, BIG):
            for seed, text in enumerate(drawn_machines()[::3]):
                names = seed % 3
                first = numbers_for(p, seed, 3)
                sealed = sealed_run(p, machine_of(text), first, names)
                for columns in (sealed, tuple(numbers_for(p, seed * 16 + at, 2 ** names) for at in range(16))):
                    draws = numbers_for(p, seed + 50, 20 + 4 * names)
                    told = tuple(plain_part_line(p, text, columns, draws, part, done) for part in (0, 1) for done in range(names))
                    self.tells(told, run_lines, p, machine_of(text), columns, draws)

    def test_degrees(self):
        for p in (11, 10007):
            for seed, text in enumerate(drawn_machines()):
                for names in (1, 3):
                    columns = tuple(numbers_for(p, seed * 16 + at, 2 ** names) for at in range(16))
                    lines = run_lines(p, machine_of(text), columns, numbers_for(p, seed, 20 + 4 * names))
                    self.assertEqual(len(lines), 2 * names)
                    self.assertLessEqual(max(len(line) - 1 for line in lines[:names]), 6)
                    self.assertLessEqual(max(len(line) - 1 for line in lines[names:]), 2)

    def test_names(self):
        for names in range(5):
            sealed = sealed_run(101, machine_of(TEXT), (1, 2, 3), names)
            self.assertEqual(len(run_lines(101, machine_of(TEXT), sealed, (5,) * (20 + 4 * names))), 2 * names)

    def test_wrong_inputs(self):
        machine = machine_of(TEXT)
        sealed = sealed_run(11, machine, (1, 2, 3), 1)
        for wrong in wrong_great_primes():
            self.fails(BadPrime, {}, run_lines, wrong, machine, sealed, (1,) * 24)
        for wrong in wrong_machines():
            self.fails(NoMachine, {}, run_lines, 11, wrong, sealed, (1,) * 24)
        for names in (0, 1, 2):
            for wrong in wrong_sealed(11, names):
                self.fails(BadSealed, {}, run_lines, 11, machine, wrong, (1,) * (20 + 4 * names))
        for wrong in wrong_draws(11, 24) + [(1,) * 20, (1,) * 23, (1,) * 25, (1,) * 28]:
            self.fails(BadDraws, {}, run_lines, 11, machine, sealed, wrong)


class TrueRunsTest(PointCase):
    def test_drawn_ones_pass(self):
        for p in (11, 13, 10007, BIG):
            for seed, text in enumerate(drawn_machines()):
                names = seed % 5 if p == 11 else seed % 3
                first = numbers_for(p, seed, 3) if seed % 2 else (0, 1, seed % 3)
                machine = machine_of(text)
                sealed, result = sealed_run(p, machine, first, names), result_of(p, text, first, names)
                for turn in range(2):
                    draws = numbers_for(p, seed * 3 + turn, 20 + 4 * names)
                    lines = run_lines(p, machine, sealed, draws)
                    self.assertEqual(run_judged(p, machine, first, result, sealed, lines, draws), ("passed",))
                    self.assertEqual(run_judged(p, machine, first, result, sealed, list(lines), draws), ("passed",))

    def test_at_rows_and_other_points(self):
        for text in (SHORT, TEXT, "ifnought a 0\nmul b b\ngoto 0\n"):
            machine, first = machine_of(text), (0, 5, 7)
            for names in (0, 1, 2):
                sealed, result = sealed_run(11, machine, first, names), result_of(11, text, first, names)
                for draw in range(11):
                    draws = (draw,) * (20 + 4 * names)
                    lines = run_lines(11, machine, sealed, draws)
                    self.tells(("passed",), run_judged, 11, machine, first, result, sealed, lines, draws)

    def test_what_no_rule_asks_for(self):
        # The spare column may be anything, and so may the inverse where the tested register is 0.
        machine, first = machine_of("ifnought a 2\nhalt\nadd b c\n"), (0, 5, 7)
        sealed, result = sealed_run(11, machine, first, 2), result_of(11, "ifnought a 2\nhalt\nadd b c\n", first, 2)
        draws = numbers_for(11, 4, 28)
        for column in (13, 15):
            for row in range(4):
                columns = bent(sealed, column, row, 3, 11)
                lines = run_lines(11, machine, columns, draws)
                self.tells(("passed",), run_judged, 11, machine, first, result, columns, lines, draws)


class CaughtTest(PointCase):
    def test_begin_and_result(self):
        machine, first = machine_of(TEXT), (1, 2, 3)
        for names in (0, 1, 2):
            sealed, result = sealed_run(11, machine, first, names), result_of(11, TEXT, first, names)
            draws = numbers_for(11, 3, 20 + 4 * names)
            lines = run_lines(11, machine, sealed, draws)
            for column in range(6):
                columns = bent(sealed, column, 0, 4, 11)
                for told in (lines, None, (), 1):
                    self.tells(("caught", 0, "begin"), run_judged, 11, machine, first, result, columns, told, draws)
            for column in range(3):
                other = put(first, column, (first[column] + 1) % 11)
                self.tells(("caught", 0, "begin"), run_judged, 11, machine, other, result, sealed, lines, draws)
                self.tells(("caught", 0, "begin"), run_judged, 11, machine, other, (0, 0, 0), sealed, lines, draws)
                other = put(result, column, (result[column] + 1) % 11)
                for told in (lines, None, (), 1):
                    self.tells(("caught", 0, "result"), run_judged, 11, machine, first, other, sealed, told, draws)

    def test_each_round_for_each_word(self):
        p, machine, first = 13, machine_of(TEXT), (1, 2, 3)
        for names in (1, 2):
            sealed, result = sealed_run(p, machine, first, names), result_of(p, TEXT, first, names)
            # Neither 0 nor 1 is drawn, where a line may be bent unseen.
            draws = tuple(2 + number % 11 for number in numbers_for(p, 8, 20 + 4 * names))
            lines = run_lines(p, machine, sealed, draws)

            def judged_with(at, line):
                return run_judged(p, machine, first, result, sealed, put(lines, at, line), draws)
            for at in range(2 * names):
                for wrong in wrong_lines(p):
                    self.assertEqual(judged_with(at, wrong), ("caught", at, "line"))
                few = (p, machine, first, result, sealed, lines[:at], draws)
                self.tells(("caught", at, "line"), run_judged, *few)
                degree = 6 if at < names else 2
                longer = (lines[at] + (0,) * 8)[:degree + 1]
                self.assertEqual(judged_with(at, longer + (1,)), ("caught", at, "degree"))
                for length in (degree + 2, 13, 14, 200):
                    self.assertEqual(judged_with(at, (1,) * length), ("caught", at, "degree"))
                for by in range(1, p):
                    self.assertEqual(judged_with(at, plain_sum(p, lines[at], (by,), 1)), ("caught", at, "halves"))
                # x less the square of x is 0 at 0 and 1, so that only the round behind sees it.
                told = judged_with(at, plain_sum(p, lines[at], (0, 1, p - 1), 1))
                end = at + 1 == names and "rules" or at + 1 == 2 * names and "links" or "halves"
                self.assertEqual(told, ("caught", at + 1, end))

    def test_lines_too_many(self):
        machine, first = machine_of(TEXT), (1, 2, 3)
        for names in (0, 1, 2):
            sealed, result = sealed_run(11, machine, first, names), result_of(11, TEXT, first, names)
            draws = numbers_for(11, 3, 20 + 4 * names)
            lines = run_lines(11, machine, sealed, draws)
            for more in (None, (), (1,)):
                handed = (11, machine, first, result, sealed, lines + (more,), draws)
                self.tells(("caught", 2 * names, "line"), run_judged, *handed)
        # "line" comes ahead of "links", but behind all rounds.
        wrong = lines[:3] + (plain_sum(11, lines[3], (0, 1, 10), 1),)
        self.tells(("caught", 4, "links"), run_judged, 11, machine, first, result, sealed, wrong, draws)
        self.tells(("caught", 4, "line"), run_judged, 11, machine, first, result, sealed, wrong + ((),), draws)
        wrong = lines[:3] + (plain_sum(11, lines[3], (1,), 1),)
        self.tells(("caught", 3, "halves"), run_judged, 11, machine, first, result, sealed, wrong + ((),), draws)
        wrong = lines[:1] + (plain_sum(11, lines[1], (0, 1, 10), 1),) + lines[2:]
        self.tells(("caught", 2, "rules"), run_judged, 11, machine, first, result, sealed, wrong + ((),), draws)

    def test_no_names(self):
        machine, first = machine_of(SHORT), (1, 2, 3)
        sealed = sealed_run(11, machine, first, 0)
        draws = tuple(range(1, 11)) * 2
        self.tells((), run_lines, 11, machine, sealed, draws)
        self.tells(("passed",), run_judged, 11, machine, first, first, sealed, (), draws)
        for lines in (None, True, 0, "", {}, "line"):
            self.tells(("caught", 0, "line"), run_judged, 11, machine, first, first, sealed, lines, draws)
            wrong = bent(sealed, 9, 0, 1, 11)
            self.tells(("caught", 0, "line"), run_judged, 11, machine, first, first, wrong, lines, draws)
        self.tells(("caught", 0, "rules"), run_judged, 11, machine, first, first, bent(sealed, 9, 0, 1, 11), (), draws)
        self.tells(("caught", 0, "rules"), run_judged, 11, machine, first, first, bent(sealed, 9, 0, 1, 11), ((),), draws)
        self.tells(("caught", 0, "line"), run_judged, 11, machine, first, first, sealed, [()], draws)

    def test_any_value_for_lines(self):
        machine, first = machine_of(SHORT), (1, 2, 3)
        sealed, result = sealed_run(11, machine, first, 1), (3, 2, 3)
        for lines in any_values() + [0, HUGE]:
            told = plain_run_judged(11, SHORT, first, result, sealed, lines, (4,) * 24)
            self.tells(told, run_judged, 11, machine, first, result, sealed, lines, (4,) * 24)

    def test_bent_columns_with_plain_lines(self):
        p = 10007
        for seed, text in enumerate(drawn_machines()[:12]):
            names = 1 + seed % 2
            machine, first = machine_of(text), numbers_for(p, seed, 3)
            sealed, result = sealed_run(p, machine, first, names), result_of(p, text, first, names)
            draws = numbers_for(p, seed + 3, 20 + 4 * names)
            for column in range(seed % 2, 16, 2):
                for row in range(2 ** names):
                    columns = bent(sealed, column, row, 5, p)
                    lines = run_lines(p, machine, columns, draws)
                    handed = (machine, first, result, columns, lines, draws)
                    told = plain_run_judged(p, text, *handed[1:])
                    self.assertEqual(run_judged(p, *handed), told)
                    if column in (6, 7, 8, 9, 10, 11, 12, 14):
                        self.assertNotEqual(told, ("passed",))

    def test_as_the_document_tells_it(self):
        p = 11
        for seed, text in enumerate(drawn_machines()[::4]):
            machine, first = machine_of(text), numbers_for(p, seed, 3)
            sealed, result = sealed_run(p, machine, first, 1), result_of(p, text, first, 1)
            draws = numbers_for(p, seed + 3, 24)
            lines = run_lines(p, machine, sealed, draws)
            for at in range(2):
                for wrong in ((), (1,), (2, 1), (0, 1, 10), (1, 2, 3, 4), None, (0,), plain_sum(p, lines[at], (0, 1, 10), 1)):
                    handed = (first, result, sealed, put(lines, at, wrong), draws)
                    self.assertEqual(run_judged(p, machine, *handed), plain_run_judged(p, text, *handed))


def cheating_lines(p, machine, sealed, draws):
    """The lines of who tells, in each round, the best line of what the sealed columns give and the claim so far."""
    names = bits(len(sealed[0]))
    plain = run_lines(p, machine, sealed, draws)
    told = []
    for part, claim, degree in ((0, 0, 6), (1, links_claim(p, sealed, draws), 2)):
        drawn = parts_of_draws(names, draws)[3 * part + 2]
        for done, draw in enumerate(drawn):
            line = best_line(p, plain[part * names + done], claim, degree)
            told.append(line)
            claim = plain_value(p, line, draw)
    return tuple(told)


class WrongResultsTest(PointCase):
    def passes(self, text, first, sealed, draws, last):
        """At how many numbers drawn at an index the best lines pass, the other draws being told.

        The index is that of the last draw of a part, on which no line hangs."""
        machine = machine_of(text)
        result = tuple(column[-1] for column in sealed[3:6])
        lines = cheating_lines(11, machine, sealed, draws)
        told = [run_judged(11, machine, first, result, sealed, lines, put(draws, last, draw)) for draw in range(11)]
        return told.count(("passed",))

    def test_all_that_hangs_on_one_bent_rule(self):
        # The next a of the first row is told too great by 1, and so it goes on: only its rule is wrong, at this row.
        right = sealed_run(11, machine_of(SHORT), (1, 2, 3), 1)
        sealed = right[:3] + ((1, 4),) + right[4:9] + ((4, 4),) + right[10:]
        draws = numbers_for(11, 5, 24)
        counts = {}
        for weight in (0, 1, 7):
            bents = [put(put(draws, 10, weight), 14, z) for z in range(11)]
            counts[weight] = [self.passes(SHORT, (1, 2, 3), sealed, told, 15) for told in bents]
        self.assertEqual(counts[0], [11] * 11)
        for weight in (1, 7):
            self.assertEqual(counts[weight], [11 if z == 1 else 6 for z in range(11)])
        # The weight is one of eleven; it may as well be each one of the ten that are not 0.
        share = Fraction(sum(counts[0]) + 10 * sum(counts[1]), 11 ** 3)
        self.assertEqual(share, Fraction(*run_loss(11, 1)))

    def test_all_that_hangs_on_one_bent_link(self):
        # The second row begins with another a than the first one leads to: all rules hold, one link doesn't.
        right = sealed_run(11, machine_of(SHORT), (1, 2, 3), 1)
        sealed = right[:3] + ((1, 4),) + right[4:9] + ((3, 4),) + right[10:]
        draws = numbers_for(11, 5, 24)
        counts = {}
        for weight in (0, 1, 7):
            bents = [put(put(draws, 19, weight), 22, u) for u in range(11)]
            counts[weight] = [self.passes(SHORT, (1, 2, 3), sealed, told, 23) for told in bents]
        self.assertEqual(counts[0], [11] * 11)
        for weight in (1, 7):
            self.assertEqual(counts[weight], [11 if u == 1 else 2 for u in range(11)])
        share = Fraction(sum(counts[0]) + 10 * sum(counts[1]), 11 ** 3)
        self.assertLessEqual(share, Fraction(*run_loss(11, 1)))

    def test_cheats_with_several_bent_columns(self):
        # The weight of the bent register's rule, z and the draw behind it run through all numbers.
        first = (2, 3, 5)
        for text, register, bends in (
                (TEXT, 1, ((10, 0, 3), (4, 1, 3))), ("mul c c\nifnought a 0\n", 2, ((5, 1, 2), (11, 0, 2), (11, 1, 1))),
                ("ifnought a 0\nmul b b\n", 0, ((3, 1, 1), (9, 0, 1), (12, 0, 1), (14, 1, 4)))):
            sealed = sealed_run(11, machine_of(text), first, 1)
            for column, row, by in bends:
                sealed = bent(sealed, column, row, by, 11)
            self.assertNotEqual(tuple(column[-1] for column in sealed[3:6]), result_of(11, text, first, 1))
            draws = numbers_for(11, register, 24)
            passed = 0
            for weight in range(11):
                for z in range(11):
                    passed += self.passes(text, first, sealed, put(put(draws, 10 + register, weight), 14, z), 15)
            self.assertLessEqual(Fraction(passed, 11 ** 3), Fraction(*run_loss(11, 1)))

    def test_no_names(self):
        # What is claimed is what is first, so that a wrong result never passes.
        machine, first = machine_of(SHORT), (1, 2, 3)
        right = sealed_run(11, machine, first, 0)
        for claimed in ((3, 2, 3), (1, 2, 4), (0, 0, 0)):
            sealed = right[:3] + tuple((number,) for number in claimed) + right[6:]
            for columns, word in ((right, "result"), (sealed, "begin")):
                for draw in range(11):
                    told = run_judged(11, machine, first, claimed, columns, (), (draw,) * 20)
                    self.assertEqual(told, ("caught", 0, word))


class WrongInputsTest(PointCase):
    def test_each_argument(self):
        machine, first = machine_of(SHORT), (1, 2, 3)
        sealed = sealed_run(11, machine, first, 1)
        draws = (1,) * 24
        lines = run_lines(11, machine, sealed, draws)
        for wrong in wrong_great_primes():
            self.fails(BadPrime, {}, run_judged, wrong, machine, first, (3, 2, 3), sealed, lines, draws)
        for wrong in wrong_machines():
            self.fails(NoMachine, {}, run_judged, 11, wrong, first, (3, 2, 3), sealed, lines, draws)
        for wrong in wrong_triples_of(11):
            self.fails(BadFirst, {}, run_judged, 11, machine, wrong, (3, 2, 3), sealed, lines, draws)
            self.fails(BadResult, {}, run_judged, 11, machine, first, wrong, sealed, lines, draws)
        for wrong in wrong_sealed(11, 1):
            self.fails(BadSealed, {}, run_judged, 11, machine, first, (3, 2, 3), wrong, lines, draws)
        for wrong in wrong_draws(11, 24) + [(1,) * 20, (1,) * 23, (1,) * 25, (1,) * 28]:
            for told in (lines, None, ()):
                self.fails(BadDraws, {}, run_judged, 11, machine, first, (3, 2, 3), sealed, told, wrong)


MACHINE = machine_of(SHORT)
SEALED = sealed_run(11, MACHINE, (1, 2, 3), 1)
DRAWS = (1,) * 24
BAD_P = (None, True, "11", 9, 5, 7, [11], HUGE)
BAD_MACHINE = (None, (), (("halt",),) * 7, [("halt",)] * 8, "halt\n", (("set", 0, True),) + (("halt",),) * 7, 1)
BAD_TRIPLE = (None, (1, 2), (1, 2, 11), [1, 2, 3], (True, 1, 2), "123", (1, 2, 3, 4), 1)
BAD_MANY = (None, True, -1, 5, "2", (2,), [2], HUGE)
BAD_SEALED = (None, (), SEALED[:15], SEALED + ((0,) * 2,), list(SEALED), ((1, 2, 3),) * 16, (SEALED[0][:1],) + SEALED[1:], 1)
BAD_DRAWS = (None, (), DRAWS[1:], DRAWS[1:] + (11,), list(DRAWS), (True,) + DRAWS[1:], "1" * 24, 24)
BAD_LINES = (None, ((0,),), [(1,)], {0: (1,)}, "line", 1, True)
CALLS = (
    (run_draws, (2,), ((BAD_MANY, "BadMany"),)),
    (run_rounds, (2,), ((BAD_MANY, "BadMany"),)),
    (run_loss, (11, 2), ((BAD_P, "BadPrime"), (BAD_MANY, "BadMany"))),
    (run_lines, (11, MACHINE, SEALED, DRAWS), (
        (BAD_P, "BadPrime"), (BAD_MACHINE, "NoMachine"), (BAD_SEALED, "BadSealed"), (BAD_DRAWS, "BadDraws"))),
    (run_judged, (11, MACHINE, (1, 2, 3), (3, 2, 3), SEALED, ((1,), (2,)), DRAWS), (
        (BAD_P, "BadPrime"), (BAD_MACHINE, "NoMachine"), (BAD_TRIPLE, "BadFirst"), (BAD_TRIPLE, "BadResult"),
        (BAD_SEALED, "BadSealed"), (BAD_LINES, None), (BAD_DRAWS, "BadDraws"))),
)


class OrderTest(PointCase):
    def test_several_wrong_arguments(self):
        self.first_errors(CALLS)

    def test_nothing_is_left_behind(self):
        self.nothing_left_behind(CALLS)
        self.same_backward([(function, right) for function, right, _ in CALLS])

    def test_lists_of_lines_are_not_changed(self):
        lines = list(run_lines(11, MACHINE, SEALED, DRAWS))
        self.tells(("passed",), run_judged, 11, MACHINE, (1, 2, 3), (3, 2, 3), SEALED, lines, DRAWS)


if __name__ == "__main__":
    unittest.main()
