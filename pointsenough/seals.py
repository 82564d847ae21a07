"""Sealed runs of the small machine: their columns, and the rules that hold at each true row of them."""

from pointsenough.errors import BadColumn, BadPoint, BadSealed
from pointsenough.joins import from_left
from pointsenough.machines import (
    LETTERS, MOST_RUN_NAMES, REGISTERS, ROWS, need_great_prime, need_machine, need_run, row_behind, stood_after,
    stood_from)
from pointsenough.numbers import inverse_of, so_many_numbers
from pointsenough.tables import fits_table, names_of, row_of, spread_at

COLUMNS = (
    "r2", "r1", "r0", "a", "b", "c", "n2", "n1", "n0", "na", "nb", "nc", "is", "inv", "x", "spare",
)
ROW_BITS = 3
# Where the columns of a standing begin, and those of its next one; each has its row's bits, then its registers.
HERE = 0
NEXT = 6


def sealed_run(p, machine, first, names):
    """The tuple of the columns of a plain run."""
    need_run(p, machine, first, names)
    entries = [entries_of(p, machine, standing) for standing in stood_from(p, machine, first, 1 << names)]
    return tuple([tuple([row[column] for row in entries]) for column in range(len(COLUMNS))])


def ask(p, sealed, column, point):
    """The value of a column's spread at a point."""
    need_great_prime(p)
    need_sealed(p, sealed)
    if not isinstance(column, str) or column not in COLUMNS:
        raise BadColumn()
    table = sealed[COLUMNS.index(column)]
    if not so_many_numbers(p, point, names_of(table)):
        raise BadPoint()
    return spread_at(p, table, point)


def row_rules(p, machine):
    """The tuple of the fourteen rules that are 0 at each true standing with its next one."""
    need_great_prime(p)
    need_machine(machine)
    return rules_of(p, machine)


def fits_sealed(p, value):
    """Whether any value is a sealed run: as many tables as columns, of one size."""
    if not isinstance(value, tuple) or len(value) != len(COLUMNS) or not all([fits_table(p, table) for table in value]):
        return False
    return names_of(value[0]) <= MOST_RUN_NAMES and all([len(table) == len(value[0]) for table in value])


def need_sealed(p, value):
    """Raise BadSealed for any value that is no sealed run."""
    if not fits_sealed(p, value):
        raise BadSealed()


def entries_of(p, machine, standing):
    """The tuple of the entries of a standing in all columns."""
    after = stood_after(p, machine, standing)
    row = machine[standing[0]]
    tested = standing[1 + row[1]] if row[0] == "ifnought" else 0
    is_nought, inverse = (1, 0) if tested == 0 else (0, inverse_of(p, tested))
    here = row_of(ROW_BITS, standing[0]) + standing[1:]
    behind = row_of(ROW_BITS, after[0]) + after[1:]
    return here + behind + (is_nought, inverse, tested, 0)


def column_name(column):
    """The rule of a column by itself."""
    return "name", COLUMNS.index(column)


def by_row(entries):
    """The rule that picks one of eight numbers by the bits of the row."""
    return "table", tuple(entries), tuple([("name", HERE + bit) for bit in range(ROW_BITS)])


def marked_rows(machine, head):
    """The rule that is 1 at the rows of a machine that begin so, else 0."""
    return by_row([1 if row[:len(head)] == head else 0 for row in machine])


def rules_of(p, machine):
    """The tuple of the fourteen rules, nothing being checked."""
    bits = [("name", start + bit) for start in (HERE, NEXT) for bit in range(ROW_BITS)]
    rules = [bit_rule(bit) for bit in bits] + test_rules(machine)
    rules += [register_rule(p, machine, target) for target in range(REGISTERS)]
    return tuple(rules + [next_row_rule(p, machine)])


def bit_rule(bit):
    """The rule that is 0 where a column is 0 or 1."""
    return "minus", ("times", bit, bit), bit


def test_rules(machine):
    """The list of the rules of the columns x, inv and is."""
    x, inv, is_nought = column_name("x"), column_name("inv"), column_name("is")
    tested = [
        ("times", marked_rows(machine, ("ifnought", at)), column_name(letter)) for at, letter in enumerate(LETTERS)]
    return [
        ("minus", x, from_left("plus", tested)),
        ("minus", ("times", x, inv), ("minus", ("number", 1), is_nought)),
        ("times", x, is_nought),
        bit_rule(is_nought),
    ]


def register_rule(p, machine, target):
    """The rule that is 0 where the next one of a register is what the row makes of it."""
    old = ("name", HERE + ROW_BITS + target)
    is_set = [row[:2] == ("set", target) for row in machine]
    kept = by_row([0 if known else 1 for known in is_set])
    parts = [("times", kept, old), by_row([row[2] % p if known else 0 for row, known in zip(machine, is_set)])]
    for at, letter in enumerate(LETTERS):
        parts.append(("times", marked_rows(machine, ("add", target, at)), column_name(letter)))
    for at, letter in enumerate(LETTERS):
        gained = ("minus", ("times", column_name(letter), old), old)
        parts.append(("times", marked_rows(machine, ("mul", target, at)), gained))
    return "minus", ("name", NEXT + ROW_BITS + target), from_left("plus", parts)


def next_row_rule(p, machine):
    """The rule that is 0 where the next row is the one that follows."""
    bits = [
        ("times", ("number", 1 << shift), ("name", NEXT + at)) for at, shift in enumerate(reversed(range(ROW_BITS)))]
    behind = [row_behind(machine, row) for row in range(ROWS)]
    jumps = [(row[2] - after) % p if row[0] == "ifnought" else 0 for row, after in zip(machine, behind)]
    jumped = ("times", by_row(jumps), column_name("is"))
    return "minus", ("minus", from_left("plus", bits), by_row(behind)), jumped
