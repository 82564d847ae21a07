"""Cases for the tests of cases and of the whole program."""

from pointsenough.machines import machine_of, run_of
from pointsenough.seals import sealed_run
from tests.support import (
    bits, drawn_machines, drawn_programs, numbers_for, plain_degrees, plain_rule, bits_rows, plain_run, rule_for)
from tests.test_marks import drawn_marked, wronged

KINDS = ("sum", "marked", "product", "program", "run")


def plain_matrix(p, one, other, sizes):
    """The product of two tables as matrices."""
    a, b, c = (2 ** size for size in sizes)
    return tuple(sum(one[i * b + k] * other[k * c + j] for k in range(b)) % p for i in range(a) for j in range(c))


def sums_for(p, seeds):
    """Right sums that look drawn."""
    told = []
    for seed in range(seeds):
        many = seed % 4
        rule = rule_for(p, many, seed, 1 + seed % 3)
        if max(plain_degrees(many, rule), default=0) <= 30:
            told.append((p, many, rule, sum(plain_rule(p, rule, row) for row in bits_rows(many)) % p))
    return told


def product_case(p, sizes, seed):
    one, other = numbers_for(p, seed, 2 ** (sizes[0] + sizes[1])), numbers_for(p, seed + 9, 2 ** (sizes[1] + sizes[2]))
    return ("product", p, one, other, sizes, plain_matrix(p, one, other, sizes))


def program_case(p, program, seed):
    inputs = numbers_for(p, seed, program[0])
    return ("program", p, program, inputs, plain_run(p, program, inputs)[-1])


def run_case(p, text, first, names):
    machine = machine_of(text)
    return ("run", p, machine, first, run_of(p, machine, first, names)[-1][1:], sealed_run(p, machine, first, names))


def right_cases():
    """Right cases of each sort."""
    told = []
    for p in (5, 7, 101, 2 ** 31 - 1):
        told += [("sum", claimed) for claimed in sums_for(p, 12)]
        told += [("marked", marked) for marked in drawn_marked(p, 3, 2)]
        for seed, sizes in enumerate(((0, 0, 0), (1, 1, 1), (0, 2, 1), (3, 0, 3), (2, 1, 0), (0, 3, 0))):
            told.append(product_case(p, sizes, seed))
        told += [program_case(p, program, seed) for seed, program in enumerate(drawn_programs()[p % 3::3])]
    for p in (11, 101, 2 ** 31 - 1):
        for seed, text in enumerate(drawn_machines()[p % 4::4]):
            told.append(run_case(p, text, numbers_for(p, seed, 3), seed % 4))
    return told


def wrong_case(case, by):
    """The same case with another number claimed, where there is one."""
    kind = case[0]
    if kind in ("sum", "marked"):
        return (kind, wronged(case[1], by))
    p, at = case[1], {"product": 5, "program": 4, "run": 4}[kind]
    claimed = case[at]
    place = by % len(claimed)
    return case[:at] + (claimed[:place] + ((claimed[place] + by) % p,) + claimed[place + 1:],) + case[at + 1:]


def plain_case_draws(case):
    """How many numbers are drawn."""
    kind = case[0]
    if kind == "sum":
        return case[1][1]
    if kind == "marked":
        many = len(case[1][1])
        return many + many * (many + 1) // 2
    if kind == "product":
        return sum(case[4])
    if kind == "program":
        inputs, layers = case[2]
        sizes = [inputs] + [len(gates) for gates in layers]
        return bits(sizes[-1]) + sum(2 * bits(size) + 1 for size in sizes[:-1])
    return 20 + 4 * bits(len(case[5][0]))


def plain_case_rounds(case):
    """How many lines are heard."""
    kind = case[0]
    if kind == "product":
        return case[4][1]
    if kind == "program":
        return plain_case_draws(case) - bits(len(case[4]))
    return 2 * bits(len(case[5][0])) if kind == "run" else plain_case_draws(case)


def draws_for(case, seed):
    """Draws for a case that look drawn."""
    p = case[1][0] if case[0] in ("sum", "marked") else case[1]
    return numbers_for(p, seed, plain_case_draws(case))
