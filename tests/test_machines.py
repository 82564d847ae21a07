"""Points [1] and [34]: the small machine."""

import unittest

from pointsenough.errors import (
    BadFirst, BadMachine, BadMany, BadPrime, BadStanding, NoMachine, NotText)
from pointsenough.machines import machine_of, machine_text, run_of, stand_after
from tests.support import (
    BIG, HUGE, PointCase, any_values, bad_tuples, drawn_machines, numbers_for, plain_stands, plain_step, wrong_great_primes,
    wrong_integers, wrong_machines, wrong_many, wrong_numbers, wrong_texts, wrong_triples_of,
)

PRIMES = (11, 13, 101, 10007, BIG)
HALT = ("halt",)
WORDS = ("set a 1", "add b c", "mul c c", "goto 7", "ifnought a 0", "halt")


def plain_machine(text):
    """The machine of a text that is right."""
    told = []
    for row in text.splitlines():
        word, *items = row.split()
        told.append((word, *["abc".index(item) if item in ("a", "b", "c") else int(item) for item in items]))
    return tuple(told + [HALT] * (8 - len(told)))


class ExamplesTest(PointCase):
    def test_examples(self):
        text = "set b 1\nifnought a 5\nmul b a\nadd a c\ngoto 1\n"
        machine = machine_of(text)
        self.assertEqual(machine[:2], (("set", 1, 1), ("ifnought", 0, 5)))
        told = [(0, 3, 0, 100), (1, 3, 1, 100), (2, 3, 1, 100), (3, 3, 3, 100)]
        self.tells(told, run_of, 101, machine, (3, 0, 100), 2)
        self.tells((5, 0, 6, 100), stand_after, 101, machine, (1, 0, 6, 100))
        self.tells(text, machine_text, machine)


class TextTest(PointCase):
    def test_drawn_ones(self):
        for text in drawn_machines():
            machine = self.tells(plain_machine(text), machine_of, text)
            rows = text.splitlines()
            while len(rows) > 1 and rows[-1] == "halt":
                rows.pop()
            self.tells("".join(row + "\n" for row in rows), machine_text, machine)
            self.tells(machine, machine_of, machine_text(machine))

    def test_each_word(self):
        for row, told in (
                ("set a 0", ("set", 0, 0)), ("set b 10", ("set", 1, 10)), ("set c 1000000", ("set", 2, 1000000)),
                ("add a b", ("add", 0, 1)), ("add c c", ("add", 2, 2)), ("mul b a", ("mul", 1, 0)),
                ("mul a a", ("mul", 0, 0)), ("goto 0", ("goto", 0)), ("goto 7", ("goto", 7)),
                ("ifnought a 0", ("ifnought", 0, 0)), ("ifnought c 7", ("ifnought", 2, 7)), ("halt", HALT)):
            self.tells((told,) + (HALT,) * 7, machine_of, row + "\n")
            self.tells(row + "\n", machine_text, (told,) + (HALT,) * 7)
            self.tells((HALT,) * 7 + (told,), machine_of, "halt\n" * 7 + row + "\n")

    def test_rows(self):
        for many in range(1, 9):
            self.tells((("goto", 1),) * many + (HALT,) * (8 - many), machine_of, "goto 1\n" * many)
        self.fails(BadMachine, {"at": 8}, machine_of, "goto 1\n" * 9)
        self.fails(BadMachine, {"at": 8}, machine_of, "halt\n" * 9)
        self.fails(BadMachine, {"at": 8}, machine_of, "halt\n" * 8 + "\n")
        self.fails(BadMachine, {"at": 8}, machine_of, "halt\n" * 8 + "halt")
        self.fails(BadMachine, {"at": 8}, machine_of, "halt\n" * 8 + " ")
        self.fails(BadMachine, {"at": 0}, machine_of, "")
        self.fails(BadMachine, {"at": 0}, machine_of, "\n")
        self.fails(BadMachine, {"at": 3}, machine_of, "goto 1\n" * 3 + "goto x\n" + "halt\n" * 9)

    def test_halts_at_the_end_ahead_and_between(self):
        self.tells("halt\n", machine_text, (HALT,) * 8)
        self.tells("goto 1\n", machine_text, (("goto", 1),) + (HALT,) * 7)
        self.tells("halt\ngoto 1\n", machine_text, (HALT, ("goto", 1)) + (HALT,) * 6)
        self.tells("goto 1\nhalt\nhalt\nadd a a\n", machine_text, (("goto", 1), HALT, HALT, ("add", 0, 0)) + (HALT,) * 4)
        self.tells("halt\n" * 7 + "goto 1\n", machine_text, (HALT,) * 7 + (("goto", 1),))
        self.tells((HALT,) * 8, machine_of, "halt\n" * 3)

    def test_rows_that_cannot_stand(self):
        bad = ["", " ", "halt ", " halt", "Halt", "halt 0", "stop", "set", "set a", "set a 1 2", "set d 1", "set A 1", "set 0 1",
               "set a -1", "set a +1", "set a 01", "set a 00", "set a 1.0", "set a x", "set a b", "set a ", "set  a 1",
               "set a  1", "set a 1 ", " set a 1", "set a 1000001", "set a 10000000", "set a " + "1" * 400, "set\ta 1",
               "set a\t1", "set a \u0661", "set a \u00b2", "add a", "add a d", "add a 1", "add ab", "add a b c", "add  a b", "mul a",
               "mul a 2", "mul d a", "mul a b ", "goto", "goto 8", "goto -1", "goto 07", "goto a", "goto 1 2", "goto  1",
               "goto 10", "ifnought a", "ifnought 1 a", "ifnought a 8", "ifnought a 00", "ifnought d 1", "ifnought a b",
               "ifnought  a 1", "ifzero a 1", "seta 1", "set a1", "halt\r", "goto 1;", "set aa 1", "add aa b", "nop"]
        for row in bad:
            for at in range(3):
                for behind in ("", "halt\n", "what\n"):
                    text = "".join(word + "\n" for word in WORDS[:at]) + row + "\n" + behind
                    self.fails(BadMachine, {"at": at}, machine_of, text)

    def test_lines_that_are_not_ended(self):
        for at in range(4):
            text = "".join(word + "\n" for word in WORDS[:at])
            for rest in ("halt", "goto 1", "what", " ", "set a"):
                self.fails(BadMachine, {"at": at}, machine_of, text + rest)
        self.fails(BadMachine, {"at": 0}, machine_of, "what\nhalt")

    def test_wrong_inputs(self):
        for wrong in wrong_texts():
            self.fails(NotText, {}, machine_of, wrong)
        for wrong in wrong_machines():
            self.fails(NoMachine, {}, machine_text, wrong)


def wrong_standings(p):
    told = any_values() + bad_tuples() + [0, HUGE, (), (0,), (0, 1, 2), (0, 1, 2, 3, 4), [0, 1, 2, 3], "0123", ((0, 1, 2, 3),)]
    told += [(row, 1, 2, 3) for row in wrong_integers(0, 7)]
    for wrong in wrong_numbers(p):
        told += [(0, wrong, 1, 2), (7, 1, wrong, 2), (3, 1, 2, wrong)]
    return told


class StandTest(PointCase):
    def test_drawn_ones(self):
        for p in PRIMES:
            for seed, text in enumerate(drawn_machines()):
                machine, rows = machine_of(text), text.splitlines()
                for row in range(8):
                    for cells in (numbers_for(p, seed + row, 3), (0, 0, 0), (0, 1, p - 1), (p - 1, 0, 1), (1, p - 1, 0)):
                        self.tells(plain_step(p, rows, (row, *cells)), stand_after, p, machine, (row, *cells))

    def test_behind_the_last_row(self):
        for word, cells in (("set a 5", (5, 2, 3)), ("add a b", (3, 2, 3)), ("mul b c", (1, 6, 3)), ("ifnought a 3", (1, 2, 3))):
            self.tells((0, *cells), stand_after, 11, machine_of(f"{word}\n" * 8), (7, 1, 2, 3))
        self.tells((7, 1, 2, 3), stand_after, 11, machine_of("goto 7\n" * 8), (7, 1, 2, 3))
        self.tells((7, 1, 2, 3), stand_after, 11, machine_of("goto 1\n"), (7, 1, 2, 3))

    def test_jumps_taken_and_not(self):
        machine = machine_of("ifnought a 5\nifnought b 0\nifnought c 2\ngoto 6\n")
        self.tells((5, 0, 1, 1), stand_after, 11, machine, (0, 0, 1, 1))
        self.tells((1, 1, 0, 0), stand_after, 11, machine, (0, 1, 0, 0))
        self.tells((0, 1, 0, 1), stand_after, 11, machine, (1, 1, 0, 1))
        self.tells((2, 0, 10, 0), stand_after, 11, machine, (1, 0, 10, 0))
        self.tells((2, 1, 1, 0), stand_after, 11, machine, (2, 1, 1, 0))
        self.tells((3, 0, 0, 1), stand_after, 11, machine, (2, 0, 0, 1))
        self.tells((6, 0, 0, 0), stand_after, 11, machine, (3, 0, 0, 0))
        self.tells((4, 1, 2, 3), stand_after, 11, machine, (4, 1, 2, 3))

    def test_with_itself(self):
        self.tells((1, 8, 1, 2), stand_after, 11, machine_of("add a a\n"), (0, 4, 1, 2))
        self.tells((1, 5, 1, 2), stand_after, 11, machine_of("mul a a\n"), (0, 4, 1, 2))
        self.tells((1, 4, 1, 10), stand_after, 11, machine_of("add c c\n"), (0, 4, 1, 5))
        self.tells((1, 4, 0, 2), stand_after, 11, machine_of("mul b b\n"), (0, 4, 0, 2))

    def test_numbers_greater_than_p(self):
        for p in (11, 13, 1009):
            for number in (p - 1, p, p + 1, 999999, 1000000):
                self.tells((1, 1, number % p, 3), stand_after, p, machine_of(f"set b {number}\n"), (0, 1, 2, 3))
        self.tells((1, 1000000, 2, 3), stand_after, BIG, machine_of("set a 1000000\n"), (0, 1, 2, 3))

    def test_wrong_inputs(self):
        machine = machine_of("add a b\n")
        for wrong in wrong_great_primes():
            self.fails(BadPrime, {}, stand_after, wrong, machine, (0, 1, 2, 3))
        for wrong in wrong_machines():
            self.fails(NoMachine, {}, stand_after, 11, wrong, (0, 1, 2, 3))
        for wrong in wrong_standings(11):
            self.fails(BadStanding, {}, stand_after, 11, machine, wrong)


class RunTest(PointCase):
    def test_drawn_ones(self):
        for p in PRIMES:
            for seed, text in enumerate(drawn_machines()):
                for names in range(5):
                    first = numbers_for(p, seed + names, 3) if names % 2 else (0, seed % 3, 1)
                    told = plain_stands(p, text, first, 2 ** names)
                    self.tells(told, run_of, p, machine_of(text), first, names)

    def test_names(self):
        machine = machine_of("add a b\ngoto 0\n")
        self.tells([(0, 1, 2, 3)], run_of, 11, machine, (1, 2, 3), 0)
        self.tells([(0, 1, 2, 3), (1, 3, 2, 3)], run_of, 11, machine, (1, 2, 3), 1)
        self.assertEqual(len(run_of(11, machine, (1, 2, 3), 4)), 16)
        self.fails(BadMany, {}, run_of, 11, machine, (1, 2, 3), 5)

    def test_lists_are_new(self):
        machine = machine_of("add a b\n")
        told = run_of(11, machine, (1, 2, 3), 1)
        told.append(None)
        self.tells([(0, 1, 2, 3), (1, 3, 2, 3)], run_of, 11, machine, (1, 2, 3), 1)

    def test_wrong_inputs(self):
        machine = machine_of("add a b\n")
        for wrong in wrong_great_primes():
            self.fails(BadPrime, {}, run_of, wrong, machine, (1, 2, 3), 2)
        for wrong in wrong_machines():
            self.fails(NoMachine, {}, run_of, 11, wrong, (1, 2, 3), 2)
        for wrong in wrong_triples_of(11):
            self.fails(BadFirst, {}, run_of, 11, machine, wrong, 2)
        for wrong in wrong_many(4):
            self.fails(BadMany, {}, run_of, 11, machine, (1, 2, 3), wrong)


MACHINE = machine_of("add a b\ngoto 0\n")
BAD_P = (None, True, "11", 9, 5, 7, [11], HUGE)
BAD_MACHINE = (None, (), (HALT,) * 7, [HALT] * 8, ("halt\n",) * 8, "halt\n", (("set", 0, True),) + (HALT,) * 7, 1)
BAD_STANDING = (None, (0, 1, 2), (8, 1, 2, 3), (0, 1, 2, 11), [0, 1, 2, 3], (True, 1, 2, 3), "0123", 1)
BAD_TRIPLE = (None, (1, 2), (1, 2, 11), [1, 2, 3], (True, 1, 2), "123", (1, 2, 3, 4), 1)
BAD_MANY = (None, True, -1, 5, "2", (2,), [2], HUGE)
CALLS = (
    (machine_of, ("halt\n",), (([None, True, 1, b"halt\n", ("halt\n",), ["halt\n"], {"halt": 1}, ()], "NotText"),)),
    (machine_text, (MACHINE,), ((BAD_MACHINE, "NoMachine"),)),
    (stand_after, (11, MACHINE, (0, 1, 2, 3)), (
        (BAD_P, "BadPrime"), (BAD_MACHINE, "NoMachine"), (BAD_STANDING, "BadStanding"))),
    (run_of, (11, MACHINE, (1, 2, 3), 2), (
        (BAD_P, "BadPrime"), (BAD_MACHINE, "NoMachine"), (BAD_TRIPLE, "BadFirst"), (BAD_MANY, "BadMany"))),
)


class OrderTest(PointCase):
    def test_several_wrong_arguments(self):
        self.first_errors(CALLS)

    def test_nothing_is_left_behind(self):
        self.nothing_left_behind(CALLS)
        self.same_backward([(function, right) for function, right, _ in CALLS])


if __name__ == "__main__":
    unittest.main()
