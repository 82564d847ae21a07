"""Points [1], [27] and [28]: points between two others, lines along them, and the judge of a program."""

import unittest
from fractions import Fraction
from itertools import product

from pointsenough.errors import (
    BadDraws, BadInputs, BadNumber, BadOutputs, BadPoint, BadPrime, BadTable, NoProgram, UnlikePoints)
from pointsenough.layers import (
    along, between, program_draws, program_judged, program_lines, program_loss, program_rounds)
from pointsenough.lines import is_line
from pointsenough.programs import layer_sum, wires
from pointsenough.sums import plain_line
from tests.support import (
    BIG, HUGE, PointCase, any_values, bad_tuples, bits, bits_rows, drawn_programs, most_passes, numbers_for,
    plain_product, plain_run, plain_spread, plain_sum, plain_value, program_for, wrong_draws, wrong_lines,
    wrong_numbers, wrong_points, wrong_primes, wrong_programs, wrong_tables,
)

PRIMES = (5, 7, 11, 10007, BIG)
PROGRAM = (2, ((("+", 0, 1), ("*", 0, 1)), (("*", 0, 1),)))
SIX = (1, 2, 3, 4, 5, 6)


def plain_between(p, one, other, place):
    return tuple((a + place * (b - a)) % p for a, b in zip(one, other))


def plain_along(p, table, one, other):
    """The line, added up from each row's entry times its weight as a product of lines."""
    told = ()
    for entry, row in zip(table, bits_rows(len(one))):
        part = (entry,) if entry else ()
        for bit, low, high in zip(row, one, other):
            step = (low % p, (high - low) % p) if bit else ((1 - low) % p, (low - high) % p)
            part = plain_product(p, part, step)
        told = plain_sum(p, told, part, 1)
    return told


def sizes_of(program):
    return [program[0]] + [len(gates) for gates in program[1]]


def plain_counts(program):
    """How many numbers are drawn and how many lines heard, layer by layer."""
    rounds = sum(2 * bits(size) + 1 for size in sizes_of(program)[:-1])
    return bits(sizes_of(program)[-1]) + rounds, rounds


def plain_program_lines(p, program, inputs, draws):
    """The plain lines, by the words of the document."""
    tables = plain_run(p, program, inputs)
    rest = list(draws)
    told = []
    z = tuple(rest.pop(0) for _ in range(bits(len(tables[-1]))))
    for layer in range(len(tables) - 1, 0, -1):
        below = tables[layer - 1]
        k = bits(len(below))
        claimed = layer_sum(p, program, layer, z, below, 0)
        drawn = ()
        for _ in range(2 * k):
            told.append(plain_line(claimed, drawn))
            drawn += (rest.pop(0),)
        told.append(plain_along(p, below, drawn[:k], drawn[k:]))
        z = plain_between(p, drawn[:k], drawn[k:], rest.pop(0))
    return tuple(told)


def plain_program_judged(p, program, inputs, outputs, lines, draws):
    """What the judge says, by the words of the document."""
    if not isinstance(lines, (tuple, list)):
        return ("caught", 0, "line")
    sizes = sizes_of(program)
    rest = list(draws)
    z = tuple(rest.pop(0) for _ in range(bits(sizes[-1])))
    so_far, done = plain_spread(p, outputs, z), 0
    for layer in range(len(sizes) - 1, 0, -1):
        k = bits(sizes[layer - 1])
        drawn = ()
        for at in range(2 * k + 1):
            if done >= len(lines) or not is_line(p, lines[done]):
                return ("caught", done, "line")
            line = lines[done]
            if len(line) - 1 > (2 if at < 2 * k else k):
                return ("caught", done, "degree")
            low, high = plain_value(p, line, 0), plain_value(p, line, 1)
            if at < 2 * k and (low + high) % p != so_far:
                return ("caught", done, "halves")
            if at == 2 * k:
                plus, times = (plain_spread(p, wires(program, layer, sign), z + drawn) for sign in "+*")
                if (plus * (low + high) + times * low * high) % p != so_far:
                    return ("caught", done, "wires")
            draw = rest.pop(0)
            so_far = plain_value(p, line, draw)
            if at < 2 * k:
                drawn += (draw,)
            else:
                z = plain_between(p, drawn[:k], drawn[k:], draw)
            done += 1
    if len(lines) > done:
        return ("caught", done, "line")
    return ("passed",) if plain_spread(p, inputs, z) == so_far else ("caught", done, "inputs")


def changed(table, at, by, p):
    return table[:at] + ((table[at] + by) % p,) + table[at + 1:]


class ExamplesTest(PointCase):
    def test_examples(self):
        self.tells((0, 1), between, 11, (1, 2), (3, 4), 5)
        self.tells((1, 3), along, 11, (1, 2, 3, 4), (0, 0), (1, 1))
        self.tells(6, program_draws, PROGRAM)
        self.tells(6, program_rounds, PROGRAM)
        self.tells((1115461, 1771561), program_loss, 11, PROGRAM)
        lines = program_lines(11, PROGRAM, (3, 4), SIX)
        self.tells(("passed",), program_judged, 11, PROGRAM, (3, 4), (7,), lines, SIX)
        self.tells(("caught", 0, "halves"), program_judged, 11, PROGRAM, (3, 4), (8,), lines, SIX)


class BetweenTest(PointCase):
    def test_drawn_ones(self):
        for p in PRIMES:
            for many in (0, 1, 2, 3, 10, 24):
                for place in (0, 1, 2, p - 1):
                    one, other = numbers_for(p, many, many), numbers_for(p, many + 40, many)
                    self.tells(plain_between(p, one, other, place), between, p, one, other, place)

    def test_edges(self):
        self.tells((), between, 5, (), (), 3)
        self.tells((1, 2), between, 5, (1, 2), (3, 4), 0)
        self.tells((3, 4), between, 5, (1, 2), (3, 4), 1)
        self.tells((2, 2), between, 5, (2, 2), (2, 2), 4)

    def test_wrong_inputs(self):
        for p in wrong_primes():
            self.fails(BadPrime, {}, between, p, (1,), (2,), 1)
        for point in wrong_points(7, 24):
            self.fails(BadPoint, {}, between, 7, point, (2,), 1)
            self.fails(BadPoint, {}, between, 7, (2,), point, 1)
        for place in wrong_numbers(7):
            self.fails(BadNumber, {}, between, 7, (1,), (2,), place)
            self.fails(BadNumber, {}, between, 7, (1,), (2, 3), place)
        for one, other in (((), (1,)), ((1,), ()), ((1, 2), (1, 2, 3)), ((1,) * 24, (1,) * 23)):
            self.fails(UnlikePoints, {}, between, 7, one, other, 3)


class AlongTest(PointCase):
    def test_drawn_ones(self):
        for p in PRIMES:
            for names in range(6):
                for seed in range(3):
                    table = numbers_for(p, seed + names, 2 ** names)
                    one, other = numbers_for(p, seed + 20, names), numbers_for(p, seed + 60, names)
                    line = self.tells(plain_along(p, table, one, other), along, p, table, one, other)
                    self.assertLessEqual(len(line) - 1, names)
                    for place in (0, 1, 2, p - 1):
                        point = plain_between(p, one, other, place)
                        self.assertEqual(plain_value(p, line, place), plain_spread(p, table, point))

    def test_edges(self):
        self.tells((3,), along, 7, (3,), (), ())
        self.tells((), along, 7, (0,), (), ())
        self.tells((), along, 7, (0, 0, 0, 0), (1, 2), (3, 4))
        self.tells((2, 1), along, 7, (2, 3), (0,), (1,))
        self.tells((4,), along, 7, (2, 3), (2,), (2,))
        table = numbers_for(BIG, 3, 1024)
        one, other = numbers_for(BIG, 4, 10), numbers_for(BIG, 5, 10)
        line = along(BIG, table, one, other)
        self.assertEqual(len(line), 11)
        self.assertEqual(plain_value(BIG, line, 77), plain_spread(BIG, table, plain_between(BIG, one, other, 77)))

    def test_degrees_above_the_greatest_number(self):
        # The product of six names along x, .., x is the line x to the sixth, by whatever prime.
        for p in (5, 7, 11):
            self.tells((0,) * 6 + (1,), along, p, (0,) * 63 + (1,), (0,) * 6, (1,) * 6)

    def test_wrong_inputs(self):
        for p in wrong_primes():
            self.fails(BadPrime, {}, along, p, (1, 2), (1,), (2,))
        for table in wrong_tables(7):
            self.fails(BadTable, {}, along, 7, table, (1,), (2,))
        for point in wrong_points(7, 24) + [(), (1,), (1, 2, 3), (0,) * 24]:
            if point != (1, 2):
                self.fails(BadPoint, {}, along, 7, (1, 2, 3, 4), point, (2, 3))
                self.fails(BadPoint, {}, along, 7, (1, 2, 3, 4), (2, 3), point)
        self.fails(BadPoint, {}, along, 7, (1, 2, 3, 4), (1,), (2,))
        self.fails(BadPoint, {}, along, 7, (1,), (1,), (2,))


class CountsTest(PointCase):
    def test_drawn_ones(self):
        for program in drawn_programs():
            draws, rounds = plain_counts(program)
            self.tells(draws, program_draws, program)
            self.tells(rounds, program_rounds, program)

    def test_edges(self):
        self.tells(1, program_draws, (1, ((("+", 0, 0),),)))
        self.tells(1, program_rounds, (1, ((("+", 0, 0),),)))
        self.tells(10, program_draws, (8, ((("+", 0, 7),) * 8,)))
        self.tells(7, program_rounds, (8, ((("+", 0, 7),) * 8,)))
        longest = (8, ((("+", 0, 7),) * 8,) * 6)
        self.tells(45, program_draws, longest)
        self.tells(42, program_rounds, longest)

    def test_what_is_no_program(self):
        for value in wrong_programs():
            self.fails(NoProgram, {}, program_draws, value)
            self.fails(NoProgram, {}, program_rounds, value)
            self.fails(NoProgram, {}, program_loss, 7, value)


class LinesTest(PointCase):
    def test_drawn_ones(self):
        for p in PRIMES:
            for seed, program in enumerate(drawn_programs()):
                inputs = numbers_for(p, seed, program[0])
                draws = numbers_for(p, seed + 9, plain_counts(program)[0])
                lines = self.tells(plain_program_lines(p, program, inputs, draws), program_lines, p, program, inputs, draws)
                self.assertEqual(len(lines), plain_counts(program)[1])

    def test_layers_of_one_gate(self):
        self.tells(((4,),), program_lines, 7, (1, ((("+", 0, 0),),)), (4,), (3,))
        self.tells(((),), program_lines, 7, (1, ((("*", 0, 0),),)), (0,), (3,))
        three = (1, ((("+", 0, 0),), (("+", 0, 0),), (("*", 0, 0),)))
        self.tells(((2,), (1,), (4,)), program_lines, 7, three, (4,), (1, 2, 3))

    def test_wrong_inputs(self):
        for p in wrong_primes():
            self.fails(BadPrime, {}, program_lines, p, PROGRAM, (3, 4), SIX)
        for value in wrong_programs():
            self.fails(NoProgram, {}, program_lines, 11, value, (3, 4), SIX)
        for inputs in wrong_tables(11) + [(1,), (1, 2, 3, 4), (1,) * 8]:
            self.fails(BadInputs, {}, program_lines, 11, PROGRAM, inputs, SIX)
        for draws in wrong_draws(11, 6) + [(1,) * 5, (1,) * 7]:
            self.fails(BadDraws, {}, program_lines, 11, PROGRAM, (3, 4), draws)


class JudgedTest(PointCase):
    def test_right_outputs_pass(self):
        for p in PRIMES:
            for seed, program in enumerate(drawn_programs()):
                inputs = numbers_for(p, seed, program[0])
                outputs = plain_run(p, program, inputs)[-1]
                for turn in range(2):
                    draws = numbers_for(p, seed + turn, plain_counts(program)[0])
                    lines = program_lines(p, program, inputs, draws)
                    self.tells(("passed",), program_judged, p, program, inputs, outputs, lines, draws)
                    self.tells(("passed",), program_judged, p, program, inputs, outputs, list(lines), draws)

    def test_right_outputs_pass_at_all_draws(self):
        for program in ((1, ((("+", 0, 0),),)), (1, ((("*", 0, 0), ("+", 0, 0)),)), (2, ((("*", 0, 1),),)),
                        (2, ((("+", 1, 0), ("*", 1, 1)),)), (1, ((("+", 0, 0), ("*", 0, 0)), (("*", 1, 0),)))):
            inputs = (3, 4)[:program[0]]
            outputs = plain_run(5, program, inputs)[-1]
            for draws in product(range(5), repeat=plain_counts(program)[0]):
                lines = program_lines(5, program, inputs, draws)
                self.assertEqual(program_judged(5, program, inputs, outputs, lines, draws), ("passed",))

    def test_wrong_outputs_with_plain_lines(self):
        for program in drawn_programs():
            p = 10007
            inputs = numbers_for(p, 3, program[0])
            outputs = plain_run(p, program, inputs)[-1]
            draws = numbers_for(p, 5, plain_counts(program)[0])
            lines = program_lines(p, program, inputs, draws)
            word = "halves" if sizes_of(program)[-2] > 1 else "wires"
            for at in range(len(outputs)):
                wrong = changed(outputs, at, 1, p)
                self.tells(("caught", 0, word), program_judged, p, program, inputs, wrong, lines, draws)

    def test_as_the_document_tells_it(self):
        for p in (5, 10007):
            for seed, program in enumerate(drawn_programs()[:18]):
                inputs = numbers_for(p, seed, program[0])
                outputs = plain_run(p, program, inputs)[-1]
                draws = numbers_for(p, seed + 3, plain_counts(program)[0])
                lines = program_lines(p, program, inputs, draws)
                for at in range(len(lines)):
                    for wrong in ((), (1,), (2, 1), (0, 1, 1), (1, 2, 3, 4), None, (0,), plain_sum(p, lines[at], (1,), 1),
                                  plain_sum(p, lines[at], (p - 1, 2), 1), plain_sum(p, lines[at], (0, 1, p - 1), 1)):
                        told = lines[:at] + (wrong,) + lines[at + 1:]
                        handed = (p, program, inputs, outputs, told, draws)
                        self.assertEqual(program_judged(*handed), plain_program_judged(*handed))

    def test_each_round_caught_for_each_word(self):
        p, draws = 11, (3, 5, 4, 2, 6, 7)
        lines = program_lines(p, PROGRAM, (3, 4), draws)

        def judged_with(at, line):
            return program_judged(p, PROGRAM, (3, 4), (7,), lines[:at] + (line,) + lines[at + 1:], draws)
        for at in range(6):
            last = at % 3 == 2
            for wrong in wrong_lines(p):
                self.assertEqual(judged_with(at, wrong), ("caught", at, "line"))
            few = (p, PROGRAM, (3, 4), (7,), lines[:at], draws)
            self.tells(("caught", at, "line"), program_judged, *few)
            degree = 1 if last else 2
            self.assertEqual(judged_with(at, (lines[at] + (0,) * 5)[:degree + 1] + (1,)), ("caught", at, "degree"))
            self.assertEqual(judged_with(at, (1,) * 200), ("caught", at, "degree"))
            told = {judged_with(at, plain_sum(p, lines[at], (by,), 1)) for by in range(1, 11)}
            self.assertIn(("caught", at, "wires" if last else "halves"), told)
        for more in (None, (), (1,)):
            handed = (p, PROGRAM, (3, 4), (7,), lines + (more,), draws)
            self.tells(("caught", 6, "line"), program_judged, *handed)
        self.tells(("caught", 6, "inputs"), program_judged, 11, PROGRAM, (3, 5), (7,), lines, draws)
        self.tells(("caught", 6, "line"), program_judged, 11, PROGRAM, (3, 5), (7,), lines + ((),), draws)

    def test_layers_of_one_gate(self):
        doubled = (1, ((("+", 0, 0),),))
        self.tells(("passed",), program_judged, 7, doubled, (4,), (1,), ((4,),), (3,))
        self.tells(("caught", 0, "degree"), program_judged, 7, doubled, (4,), (1,), ((4, 1),), (3,))
        self.tells(("caught", 0, "wires"), program_judged, 7, doubled, (4,), (1,), ((3,),), (3,))
        self.tells(("caught", 0, "wires"), program_judged, 7, doubled, (4,), (2,), ((4,),), (3,))
        self.tells(("caught", 1, "inputs"), program_judged, 7, doubled, (4,), (2,), ((1,),), (3,))
        self.tells(("caught", 1, "line"), program_judged, 7, doubled, (4,), (1,), ((4,), (4,)), (3,))
        self.tells(("caught", 0, "line"), program_judged, 7, doubled, (4,), (1,), (), (3,))
        squared = (1, ((("*", 0, 0),),))
        self.tells(("passed",), program_judged, 7, squared, (4,), (2,), ((4,),), (3,))
        # Another root of the same square is only told by the inputs.
        self.tells(("caught", 1, "inputs"), program_judged, 7, squared, (4,), (2,), ((3,),), (3,))

    def test_lines_that_are_no_tuple_or_list(self):
        for lines in any_values() + [0, 1, HUGE]:
            if not isinstance(lines, (tuple, list)):
                self.tells(("caught", 0, "line"), program_judged, 11, PROGRAM, (3, 4), (7,), lines, SIX)

    def test_degrees_above_the_greatest_number(self):
        program = program_for(8, (1,), 3)
        inputs = numbers_for(5, 3, 8)
        draws = numbers_for(5, 4, 7)
        lines = program_lines(5, program, inputs, draws)
        outputs = plain_run(5, program, inputs)[-1]
        self.tells(("passed",), program_judged, 5, program, inputs, outputs, lines, draws)
        told = lines[:6] + ((lines[6] + (0,) * 4)[:4] + (1,),)
        self.tells(("caught", 6, "degree"), program_judged, 5, program, inputs, outputs, told, draws)

    def test_no_more_draws_pass_than_the_loss(self):
        cases = [((1, ((("+", 0, 0),),)), (3,)), ((1, ((("*", 0, 0),),)), (3,)), ((1, ((("*", 0, 0), ("+", 0, 0)),)), (3,)),
                 ((2, ((("*", 0, 1),),)), (3, 4)), ((2, ((("+", 0, 1),),)), (3, 4)), ((1, ((("+", 0, 0),), (("*", 0, 0),))), (2,)),
                 ((1, ((("+", 0, 0), ("*", 0, 0)), (("*", 0, 1),))), (2,))]
        for program, inputs in cases:
            right = plain_run(5, program, inputs)[-1]
            degrees = []
            for size in sizes_of(program)[-2::-1]:
                degrees += [2] * (2 * bits(size)) + [bits(size)]
            ahead = bits(len(right))
            top, bottom = program_loss(5, program)
            for outputs in (right, changed(right, 0, 1, 5), changed(right, len(right) - 1, 3, 5)):
                def judge(lines, draws):
                    return program_judged(5, program, inputs, outputs, lines, draws)
                passes = most_passes(5, tuple(degrees), ahead, judge)
                everything = 5 ** (ahead + len(degrees))
                if outputs == right:
                    self.assertEqual(passes, everything)
                else:
                    self.assertLessEqual(passes * bottom, top * everything)

    def test_wrong_inputs(self):
        right = (11, PROGRAM, (3, 4), (7,), (), SIX)

        def wrong(at, value):
            return right[:at] + (value,) + right[at + 1:]
        for p in wrong_primes():
            self.fails(BadPrime, {}, program_judged, *wrong(0, p))
            self.fails(BadPrime, {}, program_loss, p, PROGRAM)
        for value in wrong_programs():
            self.fails(NoProgram, {}, program_judged, *wrong(1, value))
        for inputs in wrong_tables(11) + [(1,), (1, 2, 3, 4), (1,) * 8]:
            self.fails(BadInputs, {}, program_judged, *wrong(2, inputs))
        for outputs in wrong_tables(11) + [(1, 2), (1, 2, 3, 4), (1,) * 8]:
            self.fails(BadOutputs, {}, program_judged, *wrong(3, outputs))
        for draws in wrong_draws(11, 6) + [(1,) * 5, (1,) * 7]:
            for lines in ((), None, ((1,),) * 6):
                self.fails(BadDraws, {}, program_judged, *wrong(4, lines)[:5], draws)


class LossTest(PointCase):
    def test_drawn_ones(self):
        for p in PRIMES:
            for program in drawn_programs():
                kept = (1 - Fraction(1, p)) ** bits(sizes_of(program)[-1])
                for size in sizes_of(program)[:-1]:
                    kept *= (1 - Fraction(2, p)) ** (2 * bits(size)) * (1 - Fraction(min(bits(size), p - 1), p))
                self.tells(((1 - kept).numerator, (1 - kept).denominator), program_loss, p, program)

    def test_edges(self):
        self.tells((0, 1), program_loss, 5, (1, ((("+", 0, 0),),)))
        self.tells((1, 5), program_loss, 5, (1, ((("+", 0, 0),) * 2,)))
        self.tells((125 - 9 * 4, 125), program_loss, 5, (2, ((("+", 0, 1),),)))


BAD_P = (None, True, "7", 9, 3, [7], HUGE)
BAD_PROGRAM = (None, (), [2, ()], (2, ()), (3, PROGRAM[1]), (2, [PROGRAM[1][0]]), (2, ((("-", 0, 1),),)), "inputs 2", 2,
               (2, ((("+", 0, 2),),)))
BAD_INPUTS = (None, (1,), (1, 11), [1, 2], (True, 1), (1, 2, 3, 4), "12", 2)
BAD_OUTPUTS = (None, (), (11,), [1], (True,), (1, 2), "1", 2)
BAD_POINT = (None, (1, 11), [1, 2], (True, 1), "12", (1,) * 25, 1)
BAD_TABLE = (None, (), (1, 2, 3), (1, 2, 3, 11), [1, 2, 3, 4], (True, 1, 2, 3), 1)
BAD_NUMBER = (None, True, 11, -1, "1", (1,), [1], HUGE)
BAD_DRAWS = (None, SIX[:5], SIX[:5] + (11,), list(SIX), (True,) + SIX[1:], "123456", 6, SIX + (1,))
BAD_LINES = (None, ((0,),), [(1,)], {0: (1,)}, "line", 1, True)
RUN = ((BAD_P, "BadPrime"), (BAD_PROGRAM, "NoProgram"), (BAD_INPUTS, "BadInputs"))
CALLS = (
    (between, (11, (1, 2), (3, 4), 5), (
        (BAD_P, "BadPrime"), (BAD_POINT, "BadPoint"), (BAD_POINT, "BadPoint"), (BAD_NUMBER, "BadNumber"))),
    (along, (11, (1, 2, 3, 4), (3, 4), (5, 6)), (
        (BAD_P, "BadPrime"), (BAD_TABLE, "BadTable"), (BAD_POINT + ((1,),), "BadPoint"), (BAD_POINT + ((1,),), "BadPoint"))),
    (program_draws, (PROGRAM,), ((BAD_PROGRAM, "NoProgram"),)),
    (program_rounds, (PROGRAM,), ((BAD_PROGRAM, "NoProgram"),)),
    (program_loss, (11, PROGRAM), ((BAD_P, "BadPrime"), (BAD_PROGRAM, "NoProgram"))),
    (program_lines, (11, PROGRAM, (3, 4), SIX), RUN + ((BAD_DRAWS, "BadDraws"),)),
    (program_judged, (11, PROGRAM, (3, 4), (7,), ((1,),), SIX), RUN + (
        (BAD_OUTPUTS, "BadOutputs"), (BAD_LINES, None), (BAD_DRAWS, "BadDraws"))),
)


class OrderTest(PointCase):
    def test_several_wrong_arguments(self):
        self.first_errors(CALLS)

    def test_unlike_points_behind_all_others(self):
        self.fails(BadPoint, {}, between, 11, (1, 2), (11,), 3)
        self.fails(BadNumber, {}, between, 11, (1, 2), (1,), 11)
        self.fails(UnlikePoints, {}, between, 11, (1, 2), (1,), 10)
        self.fails(BadPrime, {}, between, 9, (1, 2), (1,), 11)

    def test_nothing_is_left_behind(self):
        self.nothing_left_behind(CALLS)
        self.same_backward([(function, right) for function, right, _ in CALLS])


if __name__ == "__main__":
    unittest.main()
