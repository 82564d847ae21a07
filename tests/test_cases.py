"""Points [1], [45] and [46]: cases and their texts."""

import re
import unittest

from pointsenough.cases import (
    case_draws, case_judged, case_lines, case_loss, case_rounds, case_text, is_case, read_case)
from pointsenough.errors import BadCase, BadCaseText, BadDraws, BadLines, BadRule, BadRuleText, NotText
from pointsenough.layers import program_judged, program_lines, program_loss
from pointsenough.lines import is_line
from pointsenough.machines import machine_of
from pointsenough.marks import is_marked, marked_judged, marked_line, marked_loss, rounds_of
from pointsenough.numbers import is_prime
from pointsenough.products import entry_sum, product_judged, product_loss
from pointsenough.programs import program_text
from pointsenough.ruletexts import rule_of, rule_text
from pointsenough.runs import run_judged, run_lines, run_loss
from pointsenough.seals import COLUMNS
from pointsenough.sums import is_sum, judged, loss, plain_line
from tests.cases import (
    draws_for, plain_case_draws, plain_case_rounds, product_case, program_case, right_cases, run_case, wrong_case)
from tests.support import (
    BIG, HUGE, NUMBER, PointCase, any_values, bad_tuples, line_for, numbers_for, plain_spread, plus_tree, power_rule,
    wrong_draws, wrong_great_primes, wrong_lines, wrong_machines, wrong_primes, wrong_programs, wrong_sealed, wrong_sums,
    wrong_tables, wrong_texts, wrong_triples_of,
)
from tests.test_marks import wrong_marked

PROGRAM = ("program", 11, (2, ((("*", 0, 1),),)), (3, 4), (1,))
RULE = ("times", ("name", 0), ("plus", ("name", 0), ("table", (1, 2), (("name", 1),))))
SUM = ("sum", (7, 2, RULE, 5))
MARKED = ("marked", (7, ("all", "some"), RULE, 3))
PRODUCT = product_case(7, (1, 1, 1), 3)
RUN = run_case(11, "set b 1\nifnought a 5\nmul b a\nadd a c\ngoto 1\n", (3, 0, 10), 1)
SIZES = ("sizes", "one", "other", "claimed")


def prime_of(case):
    return case[1][0] if case[0] in ("sum", "marked") else case[1]


def row(word, items):
    return " ".join([word] + [str(item) for item in items])


def plain_case_text(case, lines, draws):
    """The text of a case, by the words of the document."""
    kind = case[0]
    told = [f"{kind} {prime_of(case)}"]
    if kind in ("sum", "marked"):
        p, many, rule, claim = case[1]
        told.append(row("names", [many]) if kind == "sum" else row("marks", many))
        told += ["rule " + rule_text(p, many if kind == "sum" else len(many), rule), f"claim {claim}"]
    elif kind == "product":
        told += [row("sizes", case[4]), row("one", case[2]), row("other", case[3]), row("claimed", case[5])]
    elif kind == "program":
        told += program_text(case[2]).splitlines() + [row("values", case[3]), row("outputs", case[4])]
    else:
        rows = ["halt" if one == ("halt",) else row(one[0], [
            "abc"[item] if at == 0 and one[0] != "goto" or one[0] in ("add", "mul") else item for at, item in enumerate(one[1:])])
            for one in case[2]]
        while len(rows) > 1 and rows[-1] == "halt":
            rows.pop()
        names = {1: 0, 2: 1, 4: 2, 8: 3, 16: 4}[len(case[5][0])]
        told += rows + [row("first", case[3]), row("result", case[4]), f"columns {names}"]
        told += [row(name, column) for name, column in zip(COLUMNS, case[5])]
    return "".join(line + "\n" for line in told + [row("draws", draws)] + [row("line", line) for line in lines])


class Cannot(Exception):
    """A line cannot stand at an index."""


class PlainReader:
    """Reads the text of a case row by row, to tell only which row cannot stand there, if any."""

    def __init__(self, text):
        pieces = text.split("\n")
        self.rows, self.rest, self.next = pieces[:-1], pieces[-1], 0

    def row(self, pattern, fits=lambda *_: True):
        """The groups of the next row, which must have a pattern and fit."""
        found = re.fullmatch(pattern, self.rows[self.next], re.A) if self.next < len(self.rows) else None
        if found is None or not fits(*found.groups()):
            raise Cannot(self.next)
        self.next += 1
        return found.groups()

    def ahead(self, pattern):
        return self.next < len(self.rows) and re.fullmatch(pattern, self.rows[self.next], re.A)

    def numbers(self, word, many, most):
        told, = self.row(word + "((?: (?:0|[1-9][0-9]{0,9}))*)", lambda told: (
            len(told.split()) == many and all(int(number) <= most for number in told.split())))
        return tuple(int(number) for number in told.split())

    def whole(self):
        kind, p = self.row("(sum|marked|product|program|run) ([1-9][0-9]{0,9})", lambda kind, p: (
            is_prime(int(p)) and (kind != "run" or int(p) >= 11)))
        p = int(p)
        draws = getattr(self, kind)(p)
        self.numbers("draws", draws, p - 1)
        for _ in range(200):
            if self.next < len(self.rows):
                self.row("line((?: (?:0|[1-9][0-9]{0,9}))*)", lambda told: is_line(p, tuple(int(number) for number in told.split())))
        if self.next < len(self.rows) or self.rest:
            raise Cannot(self.next)

    def rule(self, p, many, fits):
        def told(text):
            try:
                return fits(rule_of(p, many, text))
            except (BadRuleText, BadRule):
                return False
        self.row("rule (.*)", told)
        self.numbers("claim", 1, p - 1)

    def sum(self, p):
        many, = self.numbers("names", 1, 10)
        self.rule(p, many, lambda rule: is_sum((p, many, rule, 0)))
        return many

    def marked(self, p):
        marks, = self.row("marks((?: (?:all|some)){0,6})")
        marks = tuple(marks.split())
        self.rule(p, len(marks), lambda rule: is_marked((p, marks, rule, 0)))
        return len(marks) + len(marks) * (len(marks) + 1) // 2

    def product(self, p):
        a, b, c = self.numbers("sizes", 3, 3)
        for word, names in (("one", a + b), ("other", b + c), ("claimed", a + c)):
            self.numbers(word, 2 ** names, p - 1)
        return a + b + c

    def program(self, p):
        inputs, = self.row("inputs ([1248])")
        inputs = size = int(inputs)
        places = {1: 0, 2: 1, 4: 2, 8: 3}
        draws = 0
        for layer in range(6):
            if layer and not self.ahead(self.gates(size)):
                break
            draws += 2 * places[size] + 1
            told, = self.row(self.gates(size), lambda told: len(told.split()) in places)
            size = len(told.split())
        self.numbers("values", inputs, p - 1)
        self.numbers("outputs", size, p - 1)
        return draws + places[size]

    def gates(self, size):
        gate = f" [0-{size - 1}][+*][0-{size - 1}]"
        return f"layer((?:{gate}){{1,2}}|(?:{gate}){{4}}|(?:{gate}){{8}})"

    def run(self, p):
        number = "(?:0|[1-9][0-9]{0,5}|1000000)"
        pattern = f"(?:set [abc] {number}|(?:add|mul) [abc] [abc]|goto [0-7]|ifnought [abc] [0-7]|halt)"
        self.row(pattern)
        for _ in range(7):
            if self.ahead(pattern):
                self.row(pattern)
        self.numbers("first", 3, p - 1)
        self.numbers("result", 3, p - 1)
        names, = self.numbers("columns", 1, 4)
        for name in COLUMNS:
            self.numbers(name, 2 ** names, p - 1)
        return 20 + 4 * names


def first_bad(text):
    """The index of the first line of a text that cannot stand there, None for the text of a case."""
    try:
        PlainReader(text).whole()
    except Cannot as cannot:
        return cannot.args[0]
    return None


def wrong_parts():
    """What is no case."""
    told = any_values() + bad_tuples() + [0, HUGE, (), ("sum",), ("marked",), ("product",), ("program",), ("run",), "sum", "run"]
    for case in (SUM, MARKED, PRODUCT, PROGRAM, RUN):
        told += [case[:-1], case + (1,), case[1:], list(case), ("case",) + case[1:], (case[0].upper(),) + case[1:], (None,) + case[1:]]
        told += [([case[0]],) + case[1:], (case,), dict(enumerate(case)), case[::-1], (b"sum",) + case[1:], ("",) + case[1:]]
    told += [("sum", MARKED[1]), ("marked", SUM[1]), ("sum", PROGRAM[1:]), ("point", (1, 2), (3,), 4), ("run",) + PRODUCT[1:]]
    told += [("sum", wrong) for wrong in wrong_sums()[::2]] + [("marked", wrong) for wrong in wrong_marked()[::2]]
    for at, wrongs in (
            (1, wrong_primes() + [5]), (2, wrong_tables(7) + [(1,), (1, 2), (1,) * 8]), (3, wrong_tables(7) + [(1,), (1, 2), (1,) * 8]),
            (4, any_values() + bad_tuples() + [(), (1, 1), (1, 1, 1, 1), [1, 1, 1], (1, 1, 4), (1, 1, 2), (0, 1, 1), (1, 1, True), (-1, 1, 1)]),
            (5, wrong_tables(7) + [(1,), (1, 2), (1,) * 8])):
        told += [PRODUCT[:at] + (wrong,) + PRODUCT[at + 1:] for wrong in wrongs if not (at == 1 and wrong == 5)]
    for at, wrongs in ((1, wrong_primes()), (2, wrong_programs()), (3, wrong_tables(11) + [(1,), (1, 2, 3, 4)]), (4, wrong_tables(11) + [(1, 2)])):
        told += [PROGRAM[:at] + (wrong,) + PROGRAM[at + 1:] for wrong in wrongs]
    for at, wrongs in ((1, wrong_great_primes()), (2, wrong_machines()), (3, wrong_triples_of(11)), (4, wrong_triples_of(11)), (5, wrong_sealed(11, 1))):
        told += [RUN[:at] + (wrong,) + RUN[at + 1:] for wrong in wrongs]
    return told


class ExamplesTest(PointCase):
    def test_examples(self):
        self.tells(3, case_draws, PROGRAM)
        self.tells(3, case_rounds, PROGRAM)
        lines = case_lines(PROGRAM, (5, 6, 7))
        self.tells(("passed",), case_judged, PROGRAM, lines, (5, 6, 7))
        told = "program 11\ninputs 2\nlayer 0*1\nvalues 3 4\noutputs 1\ndraws 5 6 7\nline 1 2\n"
        self.tells(told, case_text, PROGRAM, ((1, 2),), (5, 6, 7))
        self.tells((PROGRAM, ((1, 2),), (5, 6, 7)), read_case, told)

    def test_texts_of_each_sort(self):
        for case, lines, draws, told in (
                (SUM, ((0, 3, 2), ()), (3, 4), "sum 7\nnames 2\nrule (x0 * (x0 + [1 2](x1)))\nclaim 5\ndraws 3 4\nline 0 3 2\nline\n"),
                (MARKED, (), (1, 2, 3, 4, 5), "marked 7\nmarks all some\nrule (x0 * (x0 + [1 2](x1)))\nclaim 3\ndraws 1 2 3 4 5\n"),
                (("sum", (5, 0, NUMBER, 1)), (), (), "sum 5\nnames 0\nrule 1\nclaim 1\ndraws\n"),
                (("marked", (5, (), NUMBER, 1)), (), (), "marked 5\nmarks\nrule 1\nclaim 1\ndraws\n"),
                (("product", 7, (1, 2), (3, 4), (0, 1, 0), (4,)), ((6,),), (2,),
                 "product 7\nsizes 0 1 0\none 1 2\nother 3 4\nclaimed 4\ndraws 2\nline 6\n"),
                (("run", 11, machine_of("add a b\nhalt\n"), (1, 2, 3), (4, 5, 6), tuple((at % 11,) for at in range(16))), ((),), tuple(range(10)) * 2,
                 "run 11\nadd a b\nfirst 1 2 3\nresult 4 5 6\ncolumns 0\nr2 0\nr1 1\nr0 2\na 3\nb 4\nc 5\nn2 6\nn1 7\nn0 8\nna 9\nnb 10\nnc 0\nis 1\n"
                 "inv 2\nx 3\nspare 4\ndraws 0 1 2 3 4 5 6 7 8 9 0 1 2 3 4 5 6 7 8 9\nline\n")):
            self.tells(told, case_text, case, lines, draws)
            self.tells((case, lines, draws), read_case, told)


class IsCaseTest(PointCase):
    def test_right_and_wrong_ones(self):
        for case in right_cases():
            self.assertIs(is_case(case), True)
            for by in (1, 2):
                self.assertIs(is_case(wrong_case(case, by)), True)

    def test_what_is_no_case(self):
        for wrong in wrong_parts():
            self.tells(False, is_case, wrong)
            self.fails(BadCase, {}, case_draws, wrong)
            self.fails(BadCase, {}, case_rounds, wrong)
            self.fails(BadCase, {}, case_loss, wrong)
            self.fails(BadCase, {}, case_lines, wrong, ())
            self.fails(BadCase, {}, case_judged, wrong, (), ())
            self.fails(BadCase, {}, case_text, wrong, (), ())

    def test_primes_of_runs(self):
        for p in (5, 7):
            self.tells(True, is_case, product_case(p, (1, 1, 1), 3))
            self.tells(False, is_case, ("run", p, machine_of("halt\n"), (1, 2, 3), (1, 2, 3), ((0,),) * 16))
        self.tells(True, is_case, ("run", 11, machine_of("halt\n"), (1, 2, 3), (1, 2, 3), ((0,),) * 16))


class JudgesTest(PointCase):
    def test_counts_and_losses(self):
        for case in right_cases():
            self.assertEqual(case_draws(case), plain_case_draws(case))
            self.assertEqual(case_rounds(case), plain_case_rounds(case))
            if case[0] == "sum":
                told = loss(case[1])
            elif case[0] == "marked":
                told = marked_loss(case[1])
                self.assertEqual(case_rounds(case), len(rounds_of(case[1])))
            elif case[0] == "product":
                told = product_loss(case[1], case[4])
            elif case[0] == "program":
                told = program_loss(case[1], case[2])
            else:
                told = run_loss(case[1], (case_draws(case) - 20) // 4)
            self.assertEqual(case_loss(case), told)

    def lines_by_hand(self, case, draws):
        kind, p = case[0], prime_of(case)
        if kind in ("sum", "marked"):
            return tuple((plain_line if kind == "sum" else marked_line)(case[1], draws[:k]) for k in range(len(draws)))
        if kind == "product":
            first = case[4][0] + case[4][2]
            claimed = entry_sum(p, case[2], case[3], case[4], draws[:first], plain_spread(p, case[5], draws[:first]))
            return tuple(plain_line(claimed, draws[first:first + k]) for k in range(case[4][1]))
        if kind == "program":
            return program_lines(p, case[2], case[3], draws)
        return run_lines(p, case[2], case[5], draws)

    def judged_by_hand(self, case, lines, draws):
        kind, p = case[0], prime_of(case)
        if kind == "sum":
            return judged(case[1], lines, draws)
        if kind == "marked":
            return marked_judged(case[1], lines, draws)
        if kind == "product":
            return product_judged(*case[1:6], draws, lines)
        if kind == "program":
            return program_judged(*case[1:5], lines, draws)
        return run_judged(*case[1:6], lines, draws)

    def test_lines_and_judges(self):
        for seed, case in enumerate(right_cases()):
            draws = draws_for(case, seed)
            lines = case_lines(case, draws)
            self.assertEqual(lines, self.lines_by_hand(case, draws))
            self.assertEqual(len(lines), case_rounds(case))
            self.assertEqual(case_judged(case, lines, draws), ("passed",))
            wrong = wrong_case(case, 1)
            for told in (lines, list(lines), lines[:-1], lines + ((),), (), None, "line", ((1,),) * len(lines)):
                for one in (case, wrong):
                    self.assertEqual(case_judged(one, told, draws), self.judged_by_hand(one, told, draws))
            # The plain lines don't hang on what is claimed.
            self.assertEqual(case_lines(wrong, draws), lines)

    def test_wrong_draws(self):
        for case in (SUM, MARKED, PRODUCT, PROGRAM, RUN):
            many = plain_case_draws(case)
            for wrong in wrong_draws(prime_of(case), many) + [(1,) * (many - 1), (1,) * (many + 1)]:
                self.fails(BadDraws, {}, case_lines, case, wrong)
                for lines in ((), None):
                    self.fails(BadDraws, {}, case_judged, case, lines, wrong)
                self.fails(BadDraws, {}, case_text, case, (), wrong)


class TextTest(PointCase):
    def test_there_and_back(self):
        for seed, case in enumerate(right_cases()):
            draws = draws_for(case, seed)
            for lines in (case_lines(case, draws), (), ((),), tuple(line_for(prime_of(case), seed + k, k % 5) for k in range(seed % 6))):
                text = case_text(case, lines, draws)
                self.assertEqual(text, plain_case_text(case, lines, draws))
                self.assertEqual(repr(read_case(text)), repr((case, lines, draws)))

    def test_lines(self):
        for many in (0, 1, 199, 200):
            lines = ((1, 2),) * many
            text = case_text(SUM, lines, (3, 4))
            self.tells((SUM, lines, (3, 4)), read_case, text)
        self.fails(BadLines, {}, case_text, SUM, ((1, 2),) * 201, (3, 4))
        self.fails(BadCaseText, {"at": 205}, read_case, text + "line 1 2\n")
        self.fails(BadCaseText, {"at": 205}, read_case, text + "line 1 2")
        self.fails(BadCaseText, {"at": 205}, read_case, text + "line 1 2\nwhat\n")
        longest = ((1,) * 200,)
        self.tells((SUM, longest, (3, 4)), read_case, case_text(SUM, longest, (3, 4)))
        self.fails(BadCaseText, {"at": 5}, read_case, case_text(SUM, (), (3, 4)) + "line" + " 1" * 201 + "\n")
        for case in (SUM, MARKED, PRODUCT, PROGRAM, RUN):
            p, draws = prime_of(case), draws_for(case, 1)
            for wrong in wrong_lines(p):
                self.fails(BadLines, {}, case_text, case, (wrong,), draws)
                self.fails(BadLines, {}, case_text, case, ((1,), wrong), draws)
            for wrong in any_values() + [0, [], [(1,)], {}, "line", (1,), ((1,), None), HUGE]:
                if wrong != ():
                    self.fails(BadLines, {}, case_text, case, wrong, draws)

    def test_machines_with_halts_at_their_end(self):
        text = case_text(RUN, (), draws_for(RUN, 1))
        self.assertIn("goto 1\nfirst", text)
        for many in (1, 2, 3):
            longer = text.replace("goto 1\nfirst", "goto 1\n" + "halt\n" * many + "first")
            self.tells((RUN, (), draws_for(RUN, 1)), read_case, longer)
        longer = text.replace("goto 1\nfirst", "goto 1\n" + "halt\n" * 4 + "first")
        self.fails(BadCaseText, {"at": 9}, read_case, longer)

    def test_rules_that_cannot_stand(self):
        for p, many, rule, fits in ((7, 1, power_rule(30), True), (7, 1, power_rule(31), False), (7, 1, power_rule(64), False)):
            for head in (f"sum {p}\nnames {many}\n", f"marked {p}\nmarks all\n"):
                text = head + "rule " + rule_text(p, many, rule) + "\nclaim 1\ndraws " + ("1" if head[0] == "s" else "1 2") + "\n"
                if fits:
                    self.assertEqual(read_case(text)[1:], ((), (1,) if head[0] == "s" else (1, 2)))
                else:
                    self.fails(BadCaseText, {"at": 2}, read_case, text)
        large = rule_text(7, 0, plus_tree([NUMBER] * 1000))
        self.assertEqual(read_case(f"sum 7\nnames 0\nrule {large}\nclaim 1\ndraws\n")[0][1][2], plus_tree([NUMBER] * 1000))
        self.fails(BadCaseText, {"at": 2}, read_case, f"sum 7\nnames 0\nrule ({large} + {large})\nclaim 1\ndraws\n")
        long = plus_tree([("table", (BIG - 1,) * 1024, (("number", 1),) * 10)] * 2)
        case = ("sum", (BIG, 0, long, 1))
        text = case_text(case, (), ())
        self.assertGreater(len(text), 20000)
        self.fails(BadCaseText, {"at": 2}, read_case, text)

    def test_bent_texts(self):
        cases = [SUM, MARKED, PRODUCT, PROGRAM, RUN, ("sum", (5, 0, NUMBER, 1)), ("marked", (5, (), NUMBER, 1))]
        cases += [program_case(7, (4, ((("+", 0, 3), ("*", 1, 2)), (("+", 0, 1),))), 2), product_case(5, (0, 0, 0), 1), product_case(101, (0, 2, 1), 4)]
        cases += [program_case(5, (1, ((("+", 0, 0),),) * 6), 2), run_case(11, "halt\n", (1, 2, 3), 0), run_case(13, "add a b\n" * 8, (1, 2, 3), 1)]
        for case in cases:
            lines, draws = ((1, 2), (), (0, 1)), draws_for(case, 4)
            rows = case_text(case, lines, draws).splitlines()
            for at in range(len(rows) + 1):
                told = [rows[:at] + rows[at + 1:], rows[:at]]
                bends = ["", " ", "what", "line", "line 1", "line 0", "draws", "halt", "layer 0+0", "values 1", "claim 1", "rule 1", "names 1"]
                bends += rows[at - 1:at] + rows[at + 1:at + 2]
                if at < len(rows):
                    bends += [rows[at] + " ", " " + rows[at], rows[at] + " 0", rows[at] + " 1", rows[at].replace(" ", "  ", 1), rows[at] + "0"]
                    bends += [rows[at].rpartition(" ")[0], rows[at].upper(), rows[at].replace("1", "01"), rows[at].replace("1", "\u0661"), rows[at] + "\t"]
                    bends += [rows[at].rpartition(" ")[0] + " " + wrong for wrong in ("1000", "-1", "x", str(prime_of(case)), "all", "0+0")]
                told += [rows[:at] + [bent] + rows[at + 1:] for bent in bends] + [rows[:at] + [bent] + rows[at:] for bent in bends]
                for one in told:
                    self.reads("".join(line + "\n" for line in one))
                for rest in ("line 1", "what", " ", rows[at - 1]):
                    self.reads("".join(line + "\n" for line in rows[:at]) + rest)

    def reads(self, text):
        at = first_bad(text)
        if at is None:
            case, lines, draws = read_case(text)
            self.assertTrue(is_case(case))
            self.assertEqual(read_case(case_text(case, lines, draws)), (case, lines, draws))
            return
        with self.assertRaises(BadCaseText) as caught:
            read_case(text)
        self.assertEqual(caught.exception.at, at, text)

    def test_first_lines(self):
        for word in ("", "sum", "sum ", "sum 9", "sum 07", "Sum 7", "sums 7", "sum 7 7", "sum  7", " sum 7", "point 7", "run 7", "run 5", "7 sum", "sum 2147483648",
                     "sum " + "9" * 400, "sum -7", "product", "sum\t7"):
            self.fails(BadCaseText, {"at": 0}, read_case, word + "\nnames 0\nrule 1\nclaim 1\ndraws\n")
        self.fails(BadCaseText, {"at": 0}, read_case, "")
        self.fails(BadCaseText, {"at": 0}, read_case, "sum 7")
        self.fails(BadCaseText, {"at": 1}, read_case, "sum 7\n")
        self.fails(BadCaseText, {"at": 1}, read_case, "run 11\n")

    def test_texts_that_end_too_early(self):
        for case in (SUM, MARKED, PRODUCT, PROGRAM, RUN):
            rows = case_text(case, (), draws_for(case, 1)).splitlines()
            for many in range(len(rows)):
                text = "".join(line + "\n" for line in rows[:many])
                self.fails(BadCaseText, {"at": many}, read_case, text)
                self.fails(BadCaseText, {"at": many}, read_case, text + rows[many])

    def test_draws_too_few_and_too_many(self):
        for case in (SUM, MARKED, PRODUCT, PROGRAM, RUN):
            draws = draws_for(case, 1)
            text = case_text(case, ((1,),), draws)
            at = text.splitlines().index(row("draws", draws))
            for wrong in (draws[:-1], draws + (1,), (), draws[:-1] + (prime_of(case),)):
                self.fails(BadCaseText, {"at": at}, read_case, text.replace(row("draws", draws), row("draws", wrong)))

    def test_wrong_inputs(self):
        for wrong in wrong_texts():
            self.fails(NotText, {}, read_case, wrong)


BAD_CASES = (None, (), ["sum", SUM[1]], ("sum",), ("sum", MARKED[1]), ("point",) + SUM[1:], PROGRAM[:-1], "sum", 1)
BAD_DRAWS = (None, (1,), (1, 2, 3), (1, 7), [1, 2], (1, True), "12", 2)
BAD_LINES = (None, ((0,),), [(1,)], ((1,), None), {0: (1,)}, "line", 1, ((1,),) * 201)
CALLS = (
    (is_case, (SUM,), ((BAD_CASES, None),)),
    (case_draws, (SUM,), ((BAD_CASES, "BadCase"),)),
    (case_rounds, (SUM,), ((BAD_CASES, "BadCase"),)),
    (case_loss, (SUM,), ((BAD_CASES, "BadCase"),)),
    (case_lines, (SUM, (3, 4)), ((BAD_CASES, "BadCase"), (BAD_DRAWS, "BadDraws"))),
    (case_judged, (SUM, ((1,), (2,)), (3, 4)), ((BAD_CASES, "BadCase"), (BAD_LINES, None), (BAD_DRAWS, "BadDraws"))),
    (case_text, (SUM, ((1,), (2,)), (3, 4)), ((BAD_CASES, "BadCase"), (BAD_LINES, "BadLines"), (BAD_DRAWS, "BadDraws"))),
    (read_case, (case_text(SUM, (), (3, 4)),), (([None, True, 1, b"sum 7\n", ("sum 7\n",), ["sum 7\n"], {"sum": 7}, ()], "NotText"),)),
)


class OrderTest(PointCase):
    def test_several_wrong_arguments(self):
        self.first_errors(CALLS)

    def test_nothing_is_left_behind(self):
        self.nothing_left_behind(CALLS)
        self.same_backward([(function, right) for function, right, _ in CALLS])


if __name__ == "__main__":
    unittest.main()
