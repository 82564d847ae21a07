"""Layered programs: their texts, their plain runs, and sums that claim what a layer has."""

from pointsenough.errors import BadInputs, BadLayer, BadPoint, BadProgram, BadSign, BadTable, NoProgram
from pointsenough.numbers import in_bounds, need_number, need_prime, so_many_numbers
from pointsenough.tables import bits_of, names_of
from pointsenough.texts import ended_lines, need_text, number_in, numbers_in

# How many inputs, or gates of a layer, there may be.
SIZES = (1, 2, 4, 8)
MOST_LAYERS = 6
SIGNS = ("+", "*")


def program_of(text):
    """The pair (inputs, layers) of a program's text."""
    need_text(text)
    rows, rest = ended_lines(text)
    inputs = ahead = 0
    layers = []
    for index, row in enumerate(rows):
        told = inputs_in(row) if index == 0 else gates_in(row, ahead)
        if told is None or len(layers) == MOST_LAYERS:
            raise BadProgram(index)
        if index == 0:
            inputs = ahead = told
        else:
            layers.append(told)
            ahead = len(told)
    if rest != "" or not layers:
        raise BadProgram(len(rows))
    return inputs, tuple(layers)


def program_text(program):
    """The text of a program."""
    need_program(program)
    inputs, layers = program
    rows = [f"inputs {inputs}\n"]
    for gates in layers:
        words = ["layer"] + [f"{one}{sign}{other}" for sign, one, other in gates]
        rows.append(" ".join(words) + "\n")
    return "".join(rows)


def layers_of(p, program, inputs):
    """The list of the tables of the inputs and of each layer's values."""
    need_run(p, program, inputs)
    return tables_run(p, program, inputs)


def wires(program, layer, sign):
    """The table, of the names of a gate's bits and of its two places' bits, of 1 for each gate of a sign."""
    need_program(program)
    need_layer(program, layer)
    if sign not in SIGNS:
        raise BadSign()
    return wires_table(program, layer, sign)


def layer_sum(p, program, layer, point, below, claim):
    """The sum that claims the value of a layer's spread at a point, below being the table of the layer below."""
    need_prime(p)
    need_program(program)
    need_layer(program, layer)
    sizes = sizes_of(program)
    if not so_many_numbers(p, point, bits_of(sizes[layer])):
        raise BadPoint()
    if not so_many_numbers(p, below, sizes[layer - 1]):
        raise BadTable()
    need_number(p, claim)
    return layer_claimed(p, program, layer, point, below, claim)


def need_program(program):
    """Raise NoProgram for any value that is no program."""
    if not fits_program(program):
        raise NoProgram()


def need_layer(program, layer):
    """Raise BadLayer for any value that is no layer of a program, the inputs being none."""
    if not in_bounds(layer, 1, len(program[1])):
        raise BadLayer()


def need_run(p, program, inputs):
    """Raise the error of the first thing that is wrong with p, a program and its inputs."""
    need_prime(p)
    need_program(program)
    if not so_many_numbers(p, inputs, program[0]):
        raise BadInputs()


def fits_program(program):
    """Whether any value is a program."""
    if not isinstance(program, tuple) or len(program) != 2:
        return False
    inputs, layers = program
    if not in_bounds(inputs, 1, SIZES[-1]) or inputs not in SIZES:
        return False
    if not isinstance(layers, tuple) or not 1 <= len(layers) <= MOST_LAYERS:
        return False
    ahead = inputs
    for gates in layers:
        if not isinstance(gates, tuple) or len(gates) not in SIZES:
            return False
        if not all([fits_gate(gate, ahead) for gate in gates]):
            return False
        ahead = len(gates)
    return True


def fits_gate(gate, ahead):
    """Whether any value is a gate over so many places of the layer ahead."""
    if not isinstance(gate, tuple) or len(gate) != 3 or gate[0] not in SIGNS:
        return False
    return in_bounds(gate[1], 0, ahead - 1) and in_bounds(gate[2], 0, ahead - 1)


def sizes_of(program):
    """The list of how many inputs a program has, and of how many gates each of its layers has."""
    return [program[0]] + [len(gates) for gates in program[1]]


def inputs_in(row):
    """How many inputs a text's first line tells, None if it cannot stand there."""
    words = row.split(" ")
    if words[0] != "inputs" or len(words) != 2:
        return None
    inputs = number_in(words[1], SIZES[-1])
    return inputs if inputs in SIZES else None


def gates_in(row, ahead):
    """The tuple of the gates that a line tells, over so many places of the layer ahead; None if it cannot stand."""
    words = row.split(" ")
    if words[0] != "layer" or len(words) - 1 not in SIZES:
        return None
    gates = [gate_in(word, ahead) for word in words[1:]]
    return None if None in gates else tuple(gates)


def gate_in(word, ahead):
    """The gate that a word tells, over so many places of the layer ahead; None if it tells none."""
    for sign in SIGNS:
        one, found, other = word.partition(sign)
        places = numbers_in((one, other), ahead - 1)
        if found == sign and places is not None:
            return sign, places[0], places[1]
    return None


def tables_run(p, program, inputs):
    """The list of the tables of a plain run, nothing being checked."""
    tables = [inputs]
    for gates in program[1]:
        below = tables[-1]
        tables.append(tuple([gate_value(p, sign, below[one], below[other]) for sign, one, other in gates]))
    return tables


def gate_value(p, sign, left, right):
    """What a gate of a sign makes of two numbers."""
    return (left + right) % p if sign == "+" else left * right % p


def wires_table(program, layer, sign):
    """The table of a layer's gates of a sign, nothing being checked."""
    sizes = sizes_of(program)
    places = sizes[layer - 1]
    entries = [0] * (sizes[layer] * places * places)
    for index, (word, one, other) in enumerate(program[1][layer - 1]):
        if word == sign:
            entries[(index * places + one) * places + other] = 1
    return tuple(entries)


def layer_claimed(p, program, layer, point, below, claim):
    """The sum that claims the value of a layer's spread at a point, nothing being checked."""
    bits = names_of(below)
    numbers = tuple([("number", number) for number in point])
    names = tuple([("name", name) for name in range(2 * bits)])
    plus_wires, times_wires = [("table", wires_table(program, layer, sign), numbers + names) for sign in SIGNS]
    one, other = ("table", below, names[:bits]), ("table", below, names[bits:])
    added = ("times", plus_wires, ("plus", one, other))
    multiplied = ("times", times_wires, ("times", one, other))
    return p, 2 * bits, ("plus", added, multiplied), claim
