"""The small machine: its texts, its rows and its plain runs."""

from pointsenough.errors import BadFirst, BadMachine, BadMany, BadPrime, BadStanding, NoMachine
from pointsenough.numbers import in_bounds, is_prime, so_many_numbers
from pointsenough.texts import ended_lines, need_text, number_in

LEAST_PRIME = 11
ROWS = 8
MOST_RUN_NAMES = 4
LETTERS = ("a", "b", "c")
REGISTERS = 3
# What stands behind each word of a row: a letter for a register, an integer, the index of a row.
WANTS = {
    "set": ("letter", "integer"), "add": ("letter", "letter"), "mul": ("letter", "letter"), "goto": ("row",),
    "ifnought": ("letter", "row"), "halt": (),
}
MOST = {"letter": 2, "integer": 1000000, "row": 7}
HALT = ("halt",)


def machine_of(text):
    """The tuple of the eight rows of a machine's text."""
    need_text(text)
    lines, rest = ended_lines(text)
    rows = []
    for index, line in enumerate(lines):
        row = row_in(line)
        if row is None or index == ROWS:
            raise BadMachine(index)
        rows.append(row)
    if rest != "" or not rows:
        raise BadMachine(len(lines))
    return machine_of_rows(rows)


def machine_text(machine):
    """The text of a machine, without the halts at its end, but of one row at least."""
    need_machine(machine)
    many = ROWS
    while many > 1 and machine[many - 1] == HALT:
        many -= 1
    return "".join([row_text(row) + "\n" for row in machine[:many]])


def stand_after(p, machine, standing):
    """The standing behind a standing."""
    need_great_prime(p)
    need_machine(machine)
    if not fits_standing(p, standing):
        raise BadStanding()
    return stood_after(p, machine, standing)


def run_of(p, machine, first, names):
    """The list of the standings, 2 to the number of names, from row 0 on."""
    need_run(p, machine, first, names)
    return stood_from(p, machine, first, 1 << names)


def fits_machine(value):
    """Whether any value is a machine."""
    return isinstance(value, tuple) and len(value) == ROWS and all([fits_row(row) for row in value])


def fits_row(row):
    """Whether any value is a row of a machine."""
    if not isinstance(row, tuple) or not row or not isinstance(row[0], str) or row[0] not in WANTS:
        return False
    wants = WANTS[row[0]]
    if len(row) - 1 != len(wants):
        return False
    return all([in_bounds(item, 0, MOST[want]) for want, item in zip(wants, row[1:])])


def fits_standing(p, value):
    """Whether any value is a standing."""
    if not isinstance(value, tuple) or len(value) != 1 + REGISTERS:
        return False
    return in_bounds(value[0], 0, ROWS - 1) and so_many_numbers(p, value[1:], REGISTERS)


def is_great_prime(value):
    """Whether any value is a prime that is great enough for machines."""
    return is_prime(value) and value >= LEAST_PRIME


def need_great_prime(p):
    """Raise BadPrime for any value that is no prime great enough for machines."""
    if not is_great_prime(p):
        raise BadPrime()


def need_machine(machine):
    """Raise NoMachine for any value that is no machine."""
    if not fits_machine(machine):
        raise NoMachine()


def need_first(p, first):
    """Raise BadFirst for any value that is no triple of numbers."""
    if not so_many_numbers(p, first, REGISTERS):
        raise BadFirst()


def need_names(names):
    """Raise BadMany for any value that is no number of a run's names."""
    if not in_bounds(names, 0, MOST_RUN_NAMES):
        raise BadMany()


def need_run(p, machine, first, names):
    """Raise the error of the first thing that is wrong with p, a machine, first registers and a number of names."""
    need_great_prime(p)
    need_machine(machine)
    need_first(p, first)
    need_names(names)


def machine_of_rows(rows):
    """The machine of a list of rows: those that aren't there are halt."""
    return tuple(rows + [HALT] * (ROWS - len(rows)))


def row_in(line):
    """The row that a text's line tells, None if it cannot stand in a machine's text."""
    words = line.split(" ")
    wants = WANTS.get(words[0], None)
    if wants is None or len(words) - 1 != len(wants):
        return None
    items = [item_in(want, word) for want, word in zip(wants, words[1:])]
    return None if None in items else (words[0], *items)


def item_in(want, word):
    """The item of a row that a word tells where such a one is wanted, None if it tells none."""
    if want == "letter":
        return LETTERS.index(word) if word in LETTERS else None
    return number_in(word, MOST[want])


def row_text(row):
    """The text of a row."""
    words = [row[0]]
    for want, item in zip(WANTS[row[0]], row[1:]):
        words.append(LETTERS[item] if want == "letter" else str(item))
    return " ".join(words)


def row_behind(machine, row):
    """The index of the row that follows a row if it is no test that jumps."""
    word = machine[row][0]
    if word == "goto":
        return machine[row][1]
    return row if word == "halt" else (row + 1) % ROWS


def stood_after(p, machine, standing):
    """The standing behind a standing, nothing being checked."""
    row = standing[0]
    registers = list(standing[1:])
    told = machine[row]
    word = told[0]
    behind = row_behind(machine, row)
    if word == "set":
        registers[told[1]] = told[2] % p
    elif word == "add":
        registers[told[1]] = (registers[told[1]] + registers[told[2]]) % p
    elif word == "mul":
        registers[told[1]] = registers[told[1]] * registers[told[2]] % p
    elif word == "ifnought" and registers[told[1]] == 0:
        behind = told[2]
    return (behind, *registers)


def stood_from(p, machine, first, many):
    """The list of so many standings from row 0 on, nothing being checked."""
    standings = [(0, *first)]
    while len(standings) < many:
        standings.append(stood_after(p, machine, standings[-1]))
    return standings
