"""The judge of a layered program: from the claimed outputs to the inputs, layer by layer."""

from pointsenough.errors import BadOutputs, BadPoint, UnlikePoints
from pointsenough.lines import mixed, multiplied, value_at
from pointsenough.numbers import loss_of, need_number, need_prime, so_many_numbers
from pointsenough.programs import SIGNS, layer_claimed, need_program, need_run, sizes_of, tables_run, wires_table
from pointsenough.sums import halves, line_heard, line_word, need_draws, plain_behind
from pointsenough.tables import bits_of, names_of, need_point, need_table, spread_at

# The degree of a layer's sum in each of its names.
DEGREE = 2


def between(p, one, other, place):
    """The point one + place times (other - one)."""
    need_prime(p)
    need_point(p, one)
    need_point(p, other)
    need_number(p, place)
    if len(one) != len(other):
        raise UnlikePoints()
    return point_between(p, one, other, place)


def along(p, table, one, other):
    """The line of a table's spread at the points between two, as the place varies."""
    need_prime(p)
    need_table(p, table)
    for point in (one, other):
        if not so_many_numbers(p, point, names_of(table)):
            raise BadPoint()
    return line_along(p, table, one, other)


def program_draws(program):
    """How many numbers the judge of a program draws."""
    need_program(program)
    return len(degrees_of(program))


def program_rounds(program):
    """How many lines the judge of a program hears."""
    need_program(program)
    return len(degrees_of(program)) - bits_of(sizes_of(program)[-1])


def program_lines(p, program, inputs, draws):
    """The tuple of the lines that the plain answerer tells, by the plain run."""
    need_run(p, program, inputs)
    need_draws(p, draws, len(degrees_of(program)))
    tables = tables_run(p, program, inputs)
    lines = []
    stages, _ = stages_of(p, program, draws)
    for layer, point, drawn in stages:
        below = tables[layer - 1]
        # The plain lines are the same whatever is claimed.
        claimed = layer_claimed(p, program, layer, point, below, 0)
        one, other = halves_of(drawn)
        lines.extend([plain_behind(claimed, drawn[:done]) for done in range(claimed[1])])
        lines.append(line_along(p, below, one, other))
    return tuple(lines)


def program_judged(p, program, inputs, outputs, lines, draws):
    """What the judge says of claimed outputs and any value as lines: ("passed",) or ("caught", round, word)."""
    need_run(p, program, inputs)
    if not so_many_numbers(p, outputs, sizes_of(program)[-1]):
        raise BadOutputs()
    need_draws(p, draws, len(degrees_of(program)))
    if not isinstance(lines, (tuple, list)):
        return "caught", 0, "line"
    stages, last = stages_of(p, program, draws)
    so_far = spread_at(p, outputs, draws[:names_of(outputs)])
    done = 0
    for stage in stages:
        right, word, so_far = layer_heard(p, program, stage, so_far, lines[done:])
        done += right
        if word != "":
            return "caught", done, word
    if len(lines) > done:
        return "caught", done, "line"
    if spread_at(p, inputs, last) != so_far:
        return "caught", done, "inputs"
    return ("passed",)


def program_loss(p, program):
    """The share of all draws at which wrong outputs pass at most."""
    need_prime(p)
    need_program(program)
    return loss_of(p, degrees_of(program))


def degrees_of(program):
    """The list of how many places, by a great prime, each number that is drawn may meet a wrong claim at."""
    sizes = sizes_of(program)
    degrees = [1] * bits_of(sizes[-1])
    for size in reversed(sizes[:-1]):
        degrees.extend([DEGREE] * (2 * bits_of(size)))
        degrees.append(bits_of(size))
    return degrees


def stages_of(p, program, draws):
    """The pair (stages, point): a list of triples (layer, point, draws) from the last layer on, and the inputs' point.

    A layer's draws are those of its sum and then the place at which the next point is taken."""
    sizes = sizes_of(program)
    start = bits_of(sizes[-1])
    point = draws[:start]
    stages = []
    for layer in range(len(sizes) - 1, 0, -1):
        end = start + 2 * bits_of(sizes[layer - 1]) + 1
        drawn = draws[start:end]
        stages.append((layer, point, drawn))
        one, other = halves_of(drawn)
        point = point_between(p, one, other, drawn[-1])
        start = end
    return stages, point


def halves_of(drawn):
    """The two points that are drawn in the rounds of a layer's sum."""
    bits = len(drawn) // 2
    return drawn[:bits], drawn[bits:2 * bits]


def layer_heard(p, program, stage, so_far, lines):
    """The triple (rounds, word, claim so far) of a layer: how many rounds are right, and what is wrong behind them.

    The word is "" if nothing is wrong."""
    drawn = stage[2]
    for index, draw in enumerate(drawn):
        line = line_heard(lines, index)
        last = index + 1 == len(drawn)
        word = line_word(p, line, len(drawn) // 2 if last else DEGREE)
        if word == "" and last and led_to(p, program, stage, line) != so_far:
            word = "wires"
        if word == "" and not last and halves(p, line) != so_far:
            word = "halves"
        if word != "":
            return index, word, so_far
        so_far = value_at(p, line, draw)
    return len(drawn), "", so_far


def led_to(p, program, stage, line):
    """What a layer's wires make, at the points drawn, of a line's values at 0 and 1."""
    layer, point, drawn = stage
    place = point + drawn[:-1]
    plus_wires, times_wires = [spread_at(p, wires_table(program, layer, sign), place) for sign in SIGNS]
    left, right = value_at(p, line, 0), value_at(p, line, 1)
    return (plus_wires * (left + right) + times_wires * left * right) % p


def point_between(p, one, other, place):
    """The point one + place times (other - one), nothing being checked."""
    return tuple([(low + (high - low) * place) % p for low, high in zip(one, other)])


def line_along(p, table, one, other):
    """The line of a table's spread between two points, nothing being checked."""
    lines = [mixed(p, (), (entry,), 1) for entry in table]
    for low, high in zip(one, other):
        half = len(lines) // 2
        step = (low, (high - low) % p)
        rises = [mixed(p, lines[half + k], lines[k], p - 1) for k in range(half)]
        lines = [mixed(p, lines[k], multiplied(p, rise, step), 1) for k, rise in enumerate(rises)]
    return lines[0]
