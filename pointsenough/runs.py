"""The judge of a sealed run: all rows at once, then all links from one row to the next."""

from pointsenough.errors import BadResult
from pointsenough.joins import from_left
from pointsenough.lines import line_through
from pointsenough.machines import REGISTERS, need_first, need_great_prime, need_machine, need_names
from pointsenough.numbers import loss_of, so_many_numbers
from pointsenough.rules import values_behind
from pointsenough.seals import HERE, NEXT, ROW_BITS, need_sealed, rules_of
from pointsenough.sums import heard_by_degrees, need_draws
from pointsenough.tables import behind_at, held_at, left_at, names_of, row_of, spread_at, weights

RULES = 14
# The columns of a standing that its next one's are linked with.
LINKS = 6
RULES_DEGREE = 6
LINKS_DEGREE = 2


def run_draws(names):
    """How many numbers the judge of a run draws."""
    need_names(names)
    return draws_wanted(names)


def run_rounds(names):
    """How many lines the judge of a run hears."""
    need_names(names)
    return 2 * names


def run_lines(p, machine, sealed, draws):
    """The tuple of the lines that the plain answerer tells, by the sealed columns as they are."""
    need_great_prime(p)
    need_machine(machine)
    need_sealed(p, sealed)
    need_draws(p, draws, draws_wanted(names_of(sealed[0])))
    lines = []
    for part in (rules_part(p, machine, sealed, draws), links_part(p, sealed, draws)):
        lines.extend(part_lines(p, sealed, part))
    return tuple(lines)


def run_judged(p, machine, first, result, sealed, lines, draws):
    """What the judge says of a claimed result and any value as lines: ("passed",) or ("caught", round, word)."""
    need_great_prime(p)
    need_machine(machine)
    need_first(p, first)
    if not so_many_numbers(p, result, REGISTERS):
        raise BadResult()
    need_sealed(p, sealed)
    names = names_of(sealed[0])
    need_draws(p, draws, draws_wanted(names))
    word = ends_word(first, result, sealed)
    if word != "":
        return "caught", 0, word
    part = rules_part(p, machine, sealed, draws)
    done, word = part_heard(p, sealed, part, lines, "rules")
    if word != "":
        return "caught", done, word
    part = links_part(p, sealed, draws)
    done, word = part_heard(p, sealed, part, lines[names:], "links")
    if word in ("", "links") and len(lines) > 2 * names:
        word = "line"
    return ("passed",) if word == "" else ("caught", names + done, word)


def run_loss(p, names):
    """The share of all draws at which a wrong result passes at most."""
    need_great_prime(p)
    need_names(names)
    return loss_of(p, (1,) * (names + 1) + (RULES_DEGREE,) * names)


def draws_wanted(names):
    """How many numbers are drawn for a run of so many names."""
    return RULES + LINKS + 4 * names


def ends_word(first, result, sealed):
    """The word for what is wrong with the first or the last standing of a sealed run, "" if nothing is."""
    # At a row the spread of a column is its entry, at the point of zeros the first one, at that of ones the last.
    registers = sealed[HERE + ROW_BITS:NEXT]
    if tuple([column[0] for column in sealed[HERE:NEXT]]) != (0,) * ROW_BITS + first:
        return "begin"
    return "result" if tuple([column[-1] for column in registers]) != result else ""


def rules_part(p, machine, sealed, draws):
    """The part that judges all rows: (degree, claim, rule, table, point).

    It claims what the sum over all rows of the table's entry times the rule's value at the columns is; the numbers of
    the point are drawn in its rounds."""
    names = names_of(sealed[0])
    drawn = draws[:RULES + 2 * names]
    factors, z, point = drawn[:RULES], drawn[RULES:RULES + names], drawn[RULES + names:]
    return RULES_DEGREE, 0, weighed(factors, rules_of(p, machine)), weights(p, z), point


def links_part(p, sealed, draws):
    """The part that judges all links, told as rules_part tells its own."""
    names = names_of(sealed[0])
    drawn = draws[RULES + 2 * names:]
    factors, u, point = drawn[:LINKS], drawn[LINKS:LINKS + names], drawn[LINKS + names:]
    rows = [row_of(names, index) for index in range(1 << names)]
    last_weight = weights(p, u)[-1]
    claim = 0
    for factor, column in zip(factors, sealed[NEXT:NEXT + LINKS]):
        claim += factor * (spread_at(p, column, u) - column[-1] * last_weight)
    rule = weighed(factors, [("name", HERE + at) for at in range(LINKS)])
    return LINKS_DEGREE, claim % p, rule, tuple([behind_at(p, u, row) for row in rows]), point


def weighed(factors, rules):
    """The rule that adds up rules, each times its number."""
    return from_left("plus", [("times", ("number", factor), rule) for factor, rule in zip(factors, rules)])


def part_lines(p, sealed, part):
    """The list of the plain lines of a part."""
    degree, _, rule, table, point = part
    tables = [table] + list(sealed)
    lines = []
    for draw in point:
        points = []
        for place in range(degree + 1):
            points.append((place, rows_sum(p, rule, [held_at(p, entries, place) for entries in tables])))
        lines.append(line_through(p, points))
        tables = [held_at(p, entries, draw) for entries in tables]
    return lines


def part_heard(p, sealed, part, lines, end_word):
    """The pair (rounds, word) of a part: how many rounds are right, and what is wrong behind them, "" if nothing is."""
    degree, claim, rule, table, point = part
    told, word = heard_by_degrees(p, (degree,) * len(point), claim, lines, point)
    if word == "":
        at_point = rows_sum(p, rule, [left_at(p, entries, point) for entries in (table, *sealed)])
        word = "" if at_point == told[-1] else end_word
    return len(told) - 1, word


def rows_sum(p, rule, tables):
    """The sum, over all rows, of the first table's entry times the rule's value at the other tables' entries."""
    total = 0
    for row, factor in enumerate(tables[0]):
        numbers = tuple([entries[row] for entries in tables[1:]])
        total += factor * values_behind(p, rule, numbers, 0)[0]
    return total % p
