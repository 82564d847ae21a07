"""Points [1], [25] and [26]: layered programs, their texts, their runs and the sums of their layers."""

import re
import unittest

from pointsenough.errors import (
    BadInputs, BadLayer, BadNumber, BadPoint, BadPrime, BadProgram, BadSign, BadTable, NoProgram, NotText)
from pointsenough.programs import layer_sum, layers_of, program_of, program_text, wires
from pointsenough.rules import told_degrees
from pointsenough.sums import is_so, is_sum
from tests.support import (
    BIG, HUGE, PointCase, any_values, bad_tuples, bits, bits_rows, drawn_programs, numbers_for, plain_rule, plain_run,
    plain_spread, program_for, wrong_integers, wrong_numbers, wrong_points, wrong_primes, wrong_programs, wrong_tables,
    wrong_texts,
)

PRIMES = (5, 7, 11, 10007, BIG)
PROGRAM = (2, ((("+", 0, 1), ("*", 0, 1)), (("*", 0, 1),)))
TEXT = "inputs 2\nlayer 0+1 0*1\nlayer 0*1\n"


def read_plainly(text):
    """What a text reads as: a program, or the index of the first line that cannot stand."""
    rows = text.split("\n")
    ended = rows[:-1]
    ahead, layers = None, []
    for at, row in enumerate(ended):
        if at == 0:
            if not re.fullmatch("inputs [1248]", row):
                return at
            inputs = ahead = int(row[7:])
            continue
        if not re.fullmatch("layer( [0-7][+*][0-7]){1,8}", row) or len(layers) == 6:
            return at
        gates = [(word[1], int(word[0]), int(word[2])) for word in row.split(" ")[1:]]
        if len(gates) not in (1, 2, 4, 8) or any(max(a, b) >= ahead for _, a, b in gates):
            return at
        layers.append(tuple(gates))
        ahead = len(gates)
    return len(ended) if rows[-1] != "" or not layers else (inputs, tuple(layers))


def plain_text(program):
    told = "inputs " + str(program[0]) + "\n"
    for gates in program[1]:
        told += "layer" + "".join(" " + str(a) + sign + str(b) for sign, a, b in gates) + "\n"
    return told


class ExamplesTest(PointCase):
    def test_examples(self):
        self.tells(PROGRAM, program_of, TEXT)
        self.tells([(3, 4), (7, 1), (7,)], layers_of, 11, PROGRAM, (3, 4))
        self.tells((0, 1, 0, 0, 0, 0, 0, 0), wires, PROGRAM, 1, "+")
        self.tells(TEXT, program_text, PROGRAM)


class ProgramOfTest(PointCase):
    def refuses(self, at, text):
        self.assertEqual(read_plainly(text), at, text)
        self.fails(BadProgram, {"at": at}, program_of, text)

    def reads(self, program, text):
        self.assertEqual(read_plainly(text), program, text)
        self.tells(program, program_of, text)

    def test_drawn_ones(self):
        for program in drawn_programs():
            self.reads(program, plain_text(program))
            self.tells(plain_text(program), program_text, program)

    def test_how_many_inputs(self):
        for inputs in range(20):
            text = "inputs " + str(inputs) + "\nlayer 0+0\n"
            if inputs in (1, 2, 4, 8):
                self.reads((inputs, ((("+", 0, 0),),)), text)
            else:
                self.refuses(0, text)

    def test_how_many_gates(self):
        for gates in range(20):
            text = "inputs 2\nlayer" + " 0*1" * gates + "\n"
            if gates in (1, 2, 4, 8):
                self.reads((2, ((("*", 0, 1),) * gates,)), text)
            else:
                self.refuses(1, text)

    def test_how_many_layers(self):
        for many in range(9):
            text = "inputs 1\n" + "layer 0+0\n" * many
            if 1 <= many <= 6:
                self.reads((1, ((("+", 0, 0),),) * many), text)
            else:
                self.refuses(1 if many == 0 else 7, text)
        self.refuses(7, "inputs 1\n" + "layer 0+0\n" * 6 + "layer 0+0")
        self.refuses(7, "inputs 1\n" + "layer 0+0\n" * 6 + "\n")

    def test_places_of_the_layer_ahead(self):
        for inputs in (1, 2, 4, 8):
            for place in range(10):
                for word in (str(place) + "+0", "0*" + str(place)):
                    text = "inputs " + str(inputs) + "\nlayer 0+0 " + word + "\n"
                    told = read_plainly(text)
                    self.assertEqual(isinstance(told, tuple), place < inputs)
                    (self.reads if place < inputs else self.refuses)(told, text)
                    text = "inputs 8\nlayer" + " 7*7" * inputs + "\nlayer " + word + "\n"
                    told = read_plainly(text)
                    self.assertEqual(isinstance(told, tuple), place < inputs)
                    (self.reads if place < inputs else self.refuses)(told, text)

    def test_texts_that_end_too_early(self):
        self.refuses(0, "")
        self.refuses(0, "inputs 2")
        self.refuses(1, "inputs 2\n")
        self.refuses(1, "inputs 2\nlayer 0+1")
        self.refuses(2, "inputs 2\nlayer 0+1\nlayer 0+0")
        self.refuses(2, "inputs 2\nlayer 0+1\n ")
        self.refuses(2, "inputs 2\nlayer 0+1\n\n")
        self.refuses(0, "\n")
        self.refuses(0, "\n" + TEXT)
        self.refuses(1, "inputs 2\n\nlayer 0+1\n")

    def test_line_ends(self):
        for end in ("\r\n", "\r", "\x0b", "\x0c\n", "\x85", "\u2028", " \n"):
            self.refuses(0, "inputs 2" + end)
            self.refuses(1, "inputs 2\nlayer 0+1" + end)

    def test_first_lines(self):
        for row in ("", "input 2", "Inputs 2", "inputs", "inputs ", "inputs  2", " inputs 2", "inputs 2 ", "inputs\t2", "inputs2",
                    "inputs 2 2", "inputs 02", "inputs +2", "inputs -2", "inputs 2.0", "inputs two", "inputs 2_", "inputs \u0662",
                    "inputs " + "9" * 5000, "layer 0+0", "inputs \u00b2", "2", "inputs 2,", "inputs: 2"):
            self.refuses(0, row + "\nlayer 0+0\n")

    def test_later_lines(self):
        for row in ("", "layer", "layer ", "layer  0+1", " layer 0+1", "layer 0+1 ", "layer\t0+1", "layer0+1", "layers 0+1",
                    "Layer 0+1", "layer 0 + 1", "layer 0+ 1", "layer 0+1  0+1", "layer 0-1", "layer 0/1", "layer 0+", "layer +1",
                    "layer +", "layer 01", "layer 00+1", "layer 0+01", "layer 0++1", "layer 0+1+1", "layer 0*1+1", "layer 0+1*1",
                    "layer -0+1", "layer 0*-1", "layer +0+1", "layer 0+1,0+1", "layer 0+\u0661", "layer 0**1", "layer a+b",
                    "layer 0+" + "9" * 5000, "inputs 2", "layer 0+1 layer 0+1", "layer 0x1", "layer 0+1 0+1 0+1", "layer 2+0",
                    "layer 0*2", "0+1", "layer *", "layer 0*\u00b2", "layer 0+1 ", "layer 0+1\x00"):
            self.refuses(1, "inputs 2\n" + row + "\n")
            self.refuses(2, "inputs 2\nlayer 0+1 0+1\n" + row + "\nlayer 0+0\n")

    def test_the_first_one_is_told(self):
        self.refuses(1, "inputs 2\nlayer 0+2\nlayer 0+9\nx")
        self.refuses(0, "inputs 3\nlayer 0+2\nlayer 0+9\nx")
        self.refuses(2, "inputs 2\nlayer 0+1\nlayer 0+1\nlayer 0")

    def test_drawn_texts(self):
        rows = ["inputs 2", "layer 0+1", "layer 0*0", "layer 0+1 1*1", "inputs 1", "layer 1*0 0+0", "layer 0+0 0+0 0+0", ""]
        for seed in range(500):
            drawn = numbers_for(len(rows), seed, seed % 8)
            text = "".join(rows[k] + "\n" for k in (0,) * (seed % 5 > 0) + drawn) + "x" * (seed % 11 == 0)
            told = read_plainly(text)
            (self.reads if isinstance(told, tuple) else self.refuses)(told, text)

    def test_no_texts(self):
        for value in wrong_texts():
            self.fails(NotText, {}, program_of, value)


class ProgramTextTest(PointCase):
    def test_what_is_no_program(self):
        for value in wrong_programs():
            self.fails(NoProgram, {}, program_text, value)

    def test_edges(self):
        self.tells("inputs 8\nlayer 7*7\n", program_text, (8, ((("*", 7, 7),),)))
        self.tells("inputs 1\n" + "layer 0+0\n" * 6, program_text, (1, ((("+", 0, 0),),) * 6))


class LayersOfTest(PointCase):
    def test_drawn_ones(self):
        for p in PRIMES:
            for seed, program in enumerate(drawn_programs()):
                inputs = numbers_for(p, seed, program[0])
                self.tells(plain_run(p, program, inputs), layers_of, p, program, inputs)

    def test_edges(self):
        self.tells([(4,), (3,), (4,)], layers_of, 5, (1, ((("+", 0, 0),), (("*", 0, 0),))), (4,))
        squares = (1, ((("*", 0, 0),),) * 6)
        self.tells([(2,), (4,), (16,), (256,), (65536,), (2 ** 32 % BIG,), (2 ** 64 % BIG,)], layers_of, BIG, squares, (2,))

    def test_new_lists(self):
        one, other = layers_of(11, PROGRAM, (3, 4)), layers_of(11, PROGRAM, (3, 4))
        one.append(None)
        self.assertEqual(other, [(3, 4), (7, 1), (7,)])
        self.assertEqual(layers_of(11, PROGRAM, (3, 4)), other)

    def test_wrong_inputs(self):
        for p in wrong_primes():
            self.fails(BadPrime, {}, layers_of, p, PROGRAM, (3, 4))
        for value in wrong_programs():
            self.fails(NoProgram, {}, layers_of, 11, value, (3, 4))
        for inputs in wrong_tables(11) + [(1,), (1, 2, 3, 4), (1,) * 8, [3, 4], (3, 11), (11, 3), (3, True)]:
            self.fails(BadInputs, {}, layers_of, 11, PROGRAM, inputs)


class WiresTest(PointCase):
    def test_each_row(self):
        for program in drawn_programs():
            ahead = program[0]
            for layer, gates in enumerate(program[1], 1):
                for sign in "+*":
                    table = wires(program, layer, sign)
                    expected = []
                    for row in bits_rows(bits(len(gates)) + 2 * bits(ahead)):
                        gate, one, other = (
                            int("0" + "".join(map(str, part)), 2) for part in (
                                row[:bits(len(gates))], row[bits(len(gates)):len(row) - bits(ahead)],
                                row[len(row) - bits(ahead):]))
                        expected.append(1 if gates[gate] == (sign, one, other) else 0)
                    self.tells(tuple(expected), wires, program, layer, sign)
                    self.assertEqual(sum(table), sum(gate[0] == sign for gate in gates))
                ahead = len(gates)

    def test_edges(self):
        self.tells((1,), wires, (1, ((("+", 0, 0),),)), 1, "+")
        self.tells((0,), wires, (1, ((("+", 0, 0),),)), 1, "*")
        table = wires((8, ((("*", 7, 6),) * 8,)), 1, "*")
        self.assertEqual([at for at, entry in enumerate(table) if entry], [64 * gate + 62 for gate in range(8)])
        self.assertEqual(len(table), 512)

    def test_layers(self):
        for program in drawn_programs():
            layers = len(program[1])
            for layer in wrong_integers(1, layers):
                self.fails(BadLayer, {}, wires, program, layer, "+")
            for layer in range(1, layers + 1):
                wires(program, layer, "*")
            self.fails(BadLayer, {}, wires, program, 0, "+")
            self.fails(BadLayer, {}, wires, program, layers + 1, "+")

    def test_signs(self):
        for sign in any_values() + bad_tuples() + [0, 1, "-", "/", "++", "**", "+*", " +", "+ ", "plus", "times", b"+", ("+",)]:
            self.fails(BadSign, {}, wires, PROGRAM, 1, sign)

    def test_what_is_no_program(self):
        for value in wrong_programs():
            self.fails(NoProgram, {}, wires, value, 1, "+")


def plain_layer_sum(p, program, layer, point, below, claim):
    """The sum of a layer, by the words of the document."""
    k = bits(len(below))
    names = tuple(("name", name) for name in range(2 * k))
    numbers = tuple(("number", number) for number in point)
    at_b, at_c = ("table", below, names[:k]), ("table", below, names[k:])
    plus = ("table", wires(program, layer, "+"), numbers + names)
    times = ("table", wires(program, layer, "*"), numbers + names)
    rule = ("plus", ("times", plus, ("plus", at_b, at_c)), ("times", times, ("times", at_b, at_c)))
    return (p, 2 * k, rule, claim)


class LayerSumTest(PointCase):
    def test_drawn_ones(self):
        for p in PRIMES:
            for seed, program in enumerate(drawn_programs()):
                tables = plain_run(p, program, numbers_for(p, seed, program[0]))
                for layer in range(1, len(tables)):
                    point = numbers_for(p, seed + layer, bits(len(tables[layer])))
                    claim = plain_spread(p, tables[layer], point)
                    handed = (p, program, layer, point, tables[layer - 1])
                    told = self.tells(plain_layer_sum(*handed, claim), layer_sum, *handed, claim)
                    self.assertTrue(is_sum(told))
                    self.assertEqual(told_degrees(told[1], told[2]), (2,) * told[1])
                    if told[1] < 6 or p == 7:
                        self.assertTrue(is_so(told))
                        self.assertFalse(is_so(layer_sum(*handed, (claim + 1) % p)))

    def test_whatever_table_is_below(self):
        for seed in range(10):
            below = numbers_for(11, seed, 4)
            program = program_for(4, (2,), seed)
            above = plain_run(11, program, below)[1]
            for row in ((0,), (1,)):
                self.assertTrue(is_so(layer_sum(11, program, 1, row, below, above[row[0]])))

    def test_places_without_names(self):
        program = (1, ((("+", 0, 0), ("*", 0, 0)),))
        told = layer_sum(11, program, 1, (3,), (4,), 8)
        self.assertEqual(told[:2], (11, 0))
        self.assertEqual(plain_rule(11, told[2], ()), (8 * (1 - 3) + 16 * 3) % 11)

    def test_wrong_inputs(self):
        right = (11, PROGRAM, 1, (5,), (3, 4), 2)

        def wrong(at, value):
            return right[:at] + (value,) + right[at + 1:]
        for p in wrong_primes():
            self.fails(BadPrime, {}, layer_sum, *wrong(0, p))
        for value in wrong_programs():
            self.fails(NoProgram, {}, layer_sum, *wrong(1, value))
        for layer in wrong_integers(1, 2):
            self.fails(BadLayer, {}, layer_sum, *wrong(2, layer))
        for point in wrong_points(11, 24) + [(), (1, 2), (1, 2, 3)]:
            self.fails(BadPoint, {}, layer_sum, *wrong(3, point))
        for table in wrong_tables(11) + [(1,), (1, 2, 3, 4), (1,) * 8, (1,) * 1024]:
            self.fails(BadTable, {}, layer_sum, *wrong(4, table))
        for claim in wrong_numbers(11):
            self.fails(BadNumber, {}, layer_sum, *wrong(5, claim))
        self.fails(BadPoint, {}, layer_sum, 11, PROGRAM, 2, (1,), (1, 2), 3)
        self.fails(BadTable, {}, layer_sum, 11, PROGRAM, 2, (), (1,), 3)


BAD_P = (None, True, "7", 9, 3, [7], HUGE)
BAD_PROGRAM = (None, (), [2, ()], (2, ()), (3, PROGRAM[1]), (2, [PROGRAM[1][0]]), (2, ((("-", 0, 1),),)), TEXT, 2,
               (2, ((("+", 0, 2),),)))
BAD_LAYER = (None, True, 0, 3, -1, "1", (1,), HUGE)
BAD_SIGN = (None, True, "-", "", "++", 1, ("+",), ["+"])
BAD_INPUTS = (None, (1,), (1, 11), [1, 2], (True, 1), (1, 2, 3, 4), "12", 2)
BAD_POINT = (None, (), (11,), [1], (True,), "1", (1, 2), 1)
BAD_TABLE = (None, (), (1,), (1, 11), [1, 2], (True, 1), (1, 2, 3, 4), 1)
BAD_NUMBER = (None, True, 11, -1, "1", (1,), [1], HUGE)
CALLS = (
    (program_of, (TEXT,), (((None, True, 1, b"a", ("a",), [TEXT], {TEXT: 1}), "NotText"),)),
    (program_text, (PROGRAM,), ((BAD_PROGRAM, "NoProgram"),)),
    (layers_of, (11, PROGRAM, (3, 4)), ((BAD_P, "BadPrime"), (BAD_PROGRAM, "NoProgram"), (BAD_INPUTS, "BadInputs"))),
    (wires, (PROGRAM, 1, "+"), ((BAD_PROGRAM, "NoProgram"), (BAD_LAYER, "BadLayer"), (BAD_SIGN, "BadSign"))),
    (layer_sum, (11, PROGRAM, 1, (5,), (3, 4), 2), (
        (BAD_P, "BadPrime"), (BAD_PROGRAM, "NoProgram"), (BAD_LAYER, "BadLayer"), (BAD_POINT, "BadPoint"),
        (BAD_TABLE, "BadTable"), (BAD_NUMBER, "BadNumber"))),
)


class OrderTest(PointCase):
    def test_several_wrong_arguments(self):
        self.first_errors(CALLS)

    def test_nothing_is_left_behind(self):
        self.nothing_left_behind(CALLS)
        self.same_backward([(function, right) for function, right, _ in CALLS])


if __name__ == "__main__":
    unittest.main()
