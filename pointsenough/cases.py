"""Cases: claims of each sort with what their judges want, and their texts with draws and lines."""

from pointsenough.answerers import lines_of
from pointsenough.errors import BadCase, BadCaseText, BadLines, BadRule, BadRuleText
from pointsenough.layers import program_draws, program_judged, program_lines, program_loss, program_rounds
from pointsenough.lines import fits_line
from pointsenough.machines import (
    MOST_RUN_NAMES, REGISTERS, ROWS, fits_machine, is_great_prime, machine_of_rows, machine_text, row_in)
from pointsenough.marks import fits_marks, is_marked, marked_judged, marked_line, marked_loss, rounds_of
from pointsenough.numbers import GREATEST_PRIME, is_prime, so_many_numbers
from pointsenough.products import MOST_SIZE, entry_claimed, fits_product, product_judged, product_loss
from pointsenough.programs import MOST_LAYERS, fits_program, gates_in, inputs_in, program_text, sizes_of
from pointsenough.ruletexts import rule_of, text_of_rule
from pointsenough.runs import run_draws, run_judged, run_lines, run_loss, run_rounds
from pointsenough.seals import COLUMNS, fits_sealed
from pointsenough.sums import is_sum, judged, loss, need_draws, small_degrees
from pointsenough.tables import MOST_NAMES, names_of
from pointsenough.talks import row_text
from pointsenough.texts import ended_lines, need_text, number_in, numbers_in

SORTS = ("sum", "marked", "product", "program", "run")
MOST_LINES = 200


class CaseReader:
    """The rows of a case's text, and how many of them are read."""

    def __init__(self, text):
        self.rows, self.rest = ended_lines(text)
        self.done = 0

    def ahead(self):
        """The row that is read next; BadCaseText if there is none."""
        if self.done == len(self.rows):
            raise BadCaseText(self.done)
        return self.rows[self.done]

    def taken(self, told):
        """What the next row tells, which is read by this; BadCaseText if that is None, as it cannot stand there."""
        if told is None:
            raise BadCaseText(self.done)
        self.done += 1
        return told

    def numbers(self, word, many, most):
        """The tuple of just so many integers from 0 to most behind a word in the next row."""
        words = self.ahead().split(" ")
        numbers = numbers_in(words[1:], most)
        return self.taken(numbers if words[0] == word and len(words) == many + 1 else None)

    def number(self, word, most):
        """The integer from 0 to most behind a word in the next row."""
        return self.numbers(word, 1, most)[0]

    def head(self):
        """The pair of the case's word and its prime."""
        words = self.ahead().split(" ")
        prime = number_in(words[1], GREATEST_PRIME) if words[0] in SORTS and len(words) == 2 else None
        fits = is_great_prime(prime) if words[0] == "run" else is_prime(prime)
        return self.taken((words[0], prime) if fits else None)

    def marks(self):
        """The tuple of the marks in the next row."""
        words = self.ahead().split(" ")
        marks = tuple(words[1:])
        return self.taken(marks if words[0] == "marks" and fits_marks(marks) else None)

    def rule(self, p, many):
        """The rule in the next row, its told degrees being small enough."""
        word, _, text = self.ahead().partition(" ")
        rule = rule_in(p, many, text) if word == "rule" else None
        return self.taken(rule if rule is not None and small_degrees(many, rule) else None)

    def program(self):
        """The layered program in the next rows, as many as can stand there."""
        inputs = self.taken(inputs_in(self.ahead()))
        layers = [self.taken(gates_in(self.ahead(), inputs))]
        while len(layers) < MOST_LAYERS and gates_in(self.ahead(), len(layers[-1])) is not None:
            layers.append(self.taken(gates_in(self.ahead(), len(layers[-1]))))
        return inputs, tuple(layers)

    def machine(self):
        """The machine in the next rows, as many as can stand there."""
        rows = [self.taken(row_in(self.ahead()))]
        while len(rows) < ROWS and row_in(self.ahead()) is not None:
            rows.append(self.taken(row_in(self.ahead())))
        return machine_of_rows(rows)

    def lines(self, p):
        """The tuple of the lines in all rows that are left."""
        lines = []
        while self.done < len(self.rows):
            words = self.rows[self.done].split(" ")
            line = numbers_in(words[1:], p - 1)
            fits = words[0] == "line" and fits_line(p, line) and len(lines) < MOST_LINES
            lines.append(self.taken(line if fits else None))
        return tuple(lines)


def is_case(value):
    """Whether any value is a case."""
    if not isinstance(value, tuple):
        return False
    match value:
        case ("sum", claimed):
            return is_sum(claimed)
        case ("marked", marked):
            return is_marked(marked)
        case ("product", p, one, other, sizes, claimed):
            return is_prime(p) and fits_product(p, one, other, sizes, claimed)
        case ("program", p, program, inputs, outputs):
            return is_prime(p) and fits_program(program) and fits_values(p, program, inputs, outputs)
        case ("run", p, machine, first, result, sealed):
            return is_great_prime(p) and fits_machine(machine) and fits_run(p, first, result, sealed)
    return False


def case_draws(case):
    """How many numbers the judge of a case draws."""
    need_case(case)
    return draws_wanted(case)


def case_rounds(case):
    """How many lines the judge of a case hears."""
    need_case(case)
    match case:
        case ("sum", claimed):
            return claimed[1]
        case ("marked", marked):
            return len(rounds_of(marked))
        case ("product", _, _, _, sizes, _):
            return sizes[1]
        case ("program", _, program, _, _):
            return program_rounds(program)
    return run_rounds(names_of(case[5][0]))


def case_loss(case):
    """The share of all draws at which a case passes at most if it is wrong."""
    need_case(case)
    match case:
        case ("sum", claimed):
            return loss(claimed)
        case ("marked", marked):
            return marked_loss(marked)
        case ("product", p, _, _, sizes, _):
            return product_loss(p, sizes)
        case ("program", p, program, _, _):
            return program_loss(p, program)
    return run_loss(case[1], names_of(case[5][0]))


def case_lines(case, draws):
    """The tuple of the lines that the plain answerer tells."""
    need_case(case)
    need_draws(prime_of(case), draws, draws_wanted(case))
    match case:
        case ("sum", claimed):
            return lines_of(claimed, ("plain",), draws)
        case ("marked", marked):
            return tuple([marked_line(marked, draws[:done]) for done in range(len(draws))])
        case ("product", p, one, other, sizes, _):
            first = sizes[0] + sizes[2]
            # The plain lines are the same whatever is claimed.
            return lines_of(entry_claimed(p, one, other, sizes, draws[:first], 0), ("plain",), draws[first:])
        case ("program", p, program, inputs, _):
            return program_lines(p, program, inputs, draws)
    return run_lines(case[1], case[2], case[5], draws)


def case_judged(case, lines, draws):
    """What the judge says of a case and any value as lines: ("passed",) or ("caught", round, word)."""
    need_case(case)
    need_draws(prime_of(case), draws, draws_wanted(case))
    match case:
        case ("sum", claimed):
            return judged(claimed, lines, draws)
        case ("marked", marked):
            return marked_judged(marked, lines, draws)
        case ("product", p, one, other, sizes, claimed):
            return product_judged(p, one, other, sizes, claimed, draws, lines)
        case ("program", p, program, inputs, outputs):
            return program_judged(p, program, inputs, outputs, lines, draws)
        case ("run", p, machine, first, result, sealed):
            return run_judged(p, machine, first, result, sealed, lines, draws)


def case_text(case, lines, draws):
    """The text of a case, its draws and its lines."""
    need_case(case)
    p = prime_of(case)
    if not isinstance(lines, tuple) or len(lines) > MOST_LINES or not all([fits_line(p, line) for line in lines]):
        raise BadLines()
    need_draws(p, draws, draws_wanted(case))
    rows = [row_text(case[0], (p,))] + case_rows(case) + [row_text("draws", draws)]
    return "".join(rows + [row_text("line", line) for line in lines])


def read_case(text):
    """The triple (case, lines, draws) of a text."""
    need_text(text)
    reader = CaseReader(text)
    word, p = reader.head()
    told = case_read(reader, word, p)
    draws = reader.numbers("draws", draws_wanted(told), p - 1)
    lines = reader.lines(p)
    if reader.rest != "":
        raise BadCaseText(reader.done)
    return told, lines, draws


def need_case(value):
    """Raise BadCase for any value that is no case."""
    if not is_case(value):
        raise BadCase()


def fits_values(p, program, inputs, outputs):
    """Whether any values are inputs of a program and claimed outputs."""
    return so_many_numbers(p, inputs, program[0]) and so_many_numbers(p, outputs, sizes_of(program)[-1])


def fits_run(p, first, result, sealed):
    """Whether any values are first and claimed registers of a run, and its sealed columns."""
    return so_many_numbers(p, first, REGISTERS) and so_many_numbers(p, result, REGISTERS) and fits_sealed(p, sealed)


def prime_of(case):
    """The prime of a case."""
    return case[1][0] if case[0] in ("sum", "marked") else case[1]


def draws_wanted(case):
    """How many numbers the judge of a case draws, nothing being checked."""
    match case:
        case ("sum", claimed):
            return claimed[1]
        case ("marked", marked):
            return len(rounds_of(marked))
        case ("product", _, _, _, sizes, _):
            return sum(sizes)
        case ("program", _, program, _, _):
            return program_draws(program)
    return run_draws(names_of(case[5][0]))


def case_rows(case):
    """The list of the rows of a case's text behind its first one and ahead of its draws."""
    match case:
        case ("sum", (_, many, rule, claim)):
            return [row_text("names", (many,)), f"rule {text_of_rule(rule)}\n", row_text("claim", (claim,))]
        case ("marked", (_, marks, rule, claim)):
            return [row_text("marks", marks), f"rule {text_of_rule(rule)}\n", row_text("claim", (claim,))]
        case ("product", _, one, other, sizes, claimed):
            rows = [row_text("sizes", sizes), row_text("one", one), row_text("other", other)]
            return rows + [row_text("claimed", claimed)]
        case ("program", _, program, inputs, outputs):
            return [program_text(program), row_text("values", inputs), row_text("outputs", outputs)]
        case ("run", _, machine, first, result, sealed):
            rows = [machine_text(machine), row_text("first", first), row_text("result", result)]
            rows.append(row_text("columns", (names_of(sealed[0]),)))
            return rows + [row_text(name, column) for name, column in zip(COLUMNS, sealed)]


def rule_in(p, many, text):
    """The rule of a text, None if it is the text of none."""
    try:
        return rule_of(p, many, text)
    except (BadRuleText, BadRule):
        return None


def case_read(reader, word, p):
    """The case of the next rows, its word and prime being read."""
    if word == "sum":
        many = reader.number("names", MOST_NAMES)
        return word, (p, many, reader.rule(p, many), reader.number("claim", p - 1))
    if word == "marked":
        marks = reader.marks()
        return word, (p, marks, reader.rule(p, len(marks)), reader.number("claim", p - 1))
    if word == "product":
        return product_read(reader, p)
    return program_read(reader, p) if word == "program" else run_read(reader, p)


def product_read(reader, p):
    """The case of a product in the next rows."""
    sizes = reader.numbers("sizes", 3, MOST_SIZE)
    one = reader.numbers("one", 1 << (sizes[0] + sizes[1]), p - 1)
    other = reader.numbers("other", 1 << (sizes[1] + sizes[2]), p - 1)
    return "product", p, one, other, sizes, reader.numbers("claimed", 1 << (sizes[0] + sizes[2]), p - 1)


def program_read(reader, p):
    """The case of a program in the next rows."""
    program = reader.program()
    inputs = reader.numbers("values", program[0], p - 1)
    return "program", p, program, inputs, reader.numbers("outputs", sizes_of(program)[-1], p - 1)


def run_read(reader, p):
    """The case of a run in the next rows."""
    machine = reader.machine()
    first = reader.numbers("first", REGISTERS, p - 1)
    result = reader.numbers("result", REGISTERS, p - 1)
    size = 1 << reader.number("columns", MOST_RUN_NAMES)
    return "run", p, machine, first, result, tuple([reader.numbers(name, size, p - 1) for name in COLUMNS])
