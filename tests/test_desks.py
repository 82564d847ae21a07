"""Points [1] and [40]: the desk."""

import unittest
from fractions import Fraction

from pointsenough.desks import Desk
from pointsenough.errors import BadNumber, Closed, NoClaim, NoSheet, NothingDone
from pointsenough.lines import is_line
from pointsenough.marks import marked_judged, marked_line, rounds_of
from pointsenough.sheets import claim_loss, is_claim_so, led_claim, sheet_of
from pointsenough.sums import judged, plain_line
from pointsenough.talks import read_talk
from tests.sheets import SHEET, WITH_ROUNDS, WRONGED, sheet_for
from tests.support import (
    HUGE, PointCase, any_values, bad_tuples, numbers_for, plain_degrees, plain_rule, plain_spread, plain_sum, plain_value,
    wrong_lines, wrong_numbers,
)
from tests.test_marks import names_numbers, plain_rounds
from tests.test_sheets import wrong_sheets
from tests.test_talks import plain_talk

SMALL = "prime 11\nnames a b\nform f : a or b\nclaim c : count f is 3\n"


def degrees_of(led):
    """The degrees of a claim's rounds."""
    if led[0] == "point":
        return ()
    if led[0] == "sum":
        return plain_degrees(led[1][1], led[1][2])
    return tuple(degree for _, _, degree in plain_rounds(led[1][1], led[1][2]))


def plain_state(p, led, told):
    """How a claim stands behind pairs (line, draw), by the words of the document."""
    if led[0] == "point":
        return ("passed",) if plain_spread(p, led[1], led[2]) == led[3] else ("caught", 0, "end")
    so_far, rule, draws = led[1][3], led[1][2], ()
    for done, (line, draw) in enumerate(told):
        if not is_line(p, line):
            return ("caught", done, "line")
        if len(line) - 1 > degrees_of(led)[done]:
            return ("caught", done, "degree")
        low, high = plain_value(p, line, 0), plain_value(p, line, 1)
        seen = low + high
        if led[0] == "marked":
            word, name, _ = plain_rounds(led[1][1], rule)[done]
            if word == "lower":
                number = names_numbers(led[1][1], rule, draws)[name]
                seen = (1 - number) * low + number * high
            else:
                seen = low * high if word == "all" else low + high - low * high
        if seen % p != so_far:
            return ("caught", done, "rule" if led[0] == "marked" else "halves")
        so_far, draws = plain_value(p, line, draw), draws + (draw,)
    if len(draws) < len(degrees_of(led)):
        return ("open", len(draws), so_far)
    numbers = names_numbers(led[1][1], rule, draws) if led[0] == "marked" else draws
    return ("passed",) if plain_rule(p, rule, numbers) == so_far else ("caught", len(draws), "end")


class PlainDesk:
    """A desk that keeps all deeds and reckons everything from them anew."""

    def __init__(self, sheet):
        self.p = sheet["prime"]
        self.led = {name: led_claim(sheet, name) for name in sheet["claims"]}
        self.losses = {name: Fraction(*claim_loss(sheet, name)) for name in sheet["claims"]}
        self.deeds = []

    def told(self, name):
        return [(line, draw) for claim, line, draw in self.deeds if claim == name]

    def state(self, name):
        return plain_state(self.p, self.led[name], self.told(name))

    def plain(self, name):
        draws = tuple(draw for _, draw in self.told(name))
        return (plain_line if self.led[name][0] == "sum" else marked_line)(self.led[name][1], draws)

    def seen(self):
        """All that a desk tells of itself."""
        states = {name: self.state(name) for name in sorted(self.led)}
        kept, heard, drawn, talks = Fraction(1), 0, 0, {}
        for name, state in states.items():
            told = self.told(name)
            lines = [line for line, _ in told if is_line(self.p, line)]
            draws = [draw for _, draw in told]
            if state[0] == "caught":
                draws = draws[:state[1]]
            else:
                kept *= 1 - self.losses[name]
            heard += sum(len(line) for line in lines)
            drawn += len(draws)
            talks[name] = plain_talk(lines, draws)
        loss = ((1 - kept).numerator, (1 - kept).denominator)
        return states, loss, (heard, drawn), talks, tuple(name for name in states if states[name][0] == "open")


def seen(desk, names):
    return ({name: desk.state(name) for name in sorted(names)}, desk.loss(), desk.asked(),
            {name: desk.talk(name) for name in sorted(names)}, desk.open_names())


class DeskCase(PointCase):
    def agree(self, desk, plain):
        self.assertEqual(repr(seen(desk, plain.led)), repr(plain.seen()))

    def pair(self, sheet):
        desk, plain = Desk(sheet), PlainDesk(sheet)
        self.agree(desk, plain)
        return desk, plain

    def hear(self, desk, plain, name, line, draw):
        plain.deeds.append((name, line, draw))
        self.assertEqual(desk.hear(name, line, draw), plain.state(name))
        self.agree(desk, plain)

    def answer(self, desk, plain, name, draw):
        plain.deeds.append((name, plain.plain(name), draw))
        self.assertEqual(desk.answer(name, draw), plain.state(name))
        self.agree(desk, plain)

    def undo(self, desk, plain):
        plain.deeds.pop()
        self.assertIsNone(desk.undo())
        self.agree(desk, plain)

    def refused(self, kind, desk, names, call):
        """A call that raises an error changes nothing."""
        before = repr(seen(desk, names))
        for _ in range(2):
            with self.assertRaises(kind) as caught:
                call()
            self.assertIs(type(caught.exception), kind)
        self.assertEqual(repr(seen(desk, names)), before)


class ExamplesTest(DeskCase):
    def test_examples(self):
        desk = Desk(sheet_of(SMALL))
        states = [desk.state("c"), desk.answer("c", 5), desk.hear("c", (1, 2), 3)]
        self.assertEqual([states, desk.asked(), desk.loss()],
                         [[("open", 0, 3), ("open", 1, 6), ("caught", 1, "halves")], (4, 1), (0, 1)])
        self.assertIsNone(desk.undo())
        told = [desk.state("c"), desk.talk("c"), desk.open_names(), desk.loss()]
        self.assertEqual(told, [("open", 1, 6), "line 1 1\ndraw 5\n", ("c",), (21, 121)])


class FirstStandTest(DeskCase):
    def test_claims_without_rounds(self):
        right, _ = self.pair(sheet_of(SHEET))
        wrong, _ = self.pair(sheet_of(WRONGED))
        for name in ("cd", "cf", "cg"):
            self.assertEqual(right.state(name), ("passed",))
            self.assertEqual(wrong.state(name), ("caught", 0, "end"))
        for desk in (right, wrong):
            self.assertEqual(desk.open_names(), WITH_ROUNDS)
            self.assertEqual(desk.asked(), (0, 0))
        self.assertEqual(right.state("ca"), ("open", 0, 5))
        self.assertEqual(right.state("cb"), ("open", 0, 6))
        self.assertEqual(wrong.state("cb"), ("open", 0, 12))
        self.assertEqual(right.state("ce"), ("open", 0, 1))

    def test_forms_without_names(self):
        text = "prime 7\nform f : yes\nmarks m :\nclaim a : count f is 1\nclaim b : count f is 2\nclaim c : holds f by m is 1\nclaim d : holds f by m is 0\n"
        desk, _ = self.pair(sheet_of(text))
        told = [desk.state(name) for name in "abcd"]
        self.assertEqual(told, [("passed",), ("caught", 0, "end"), ("passed",), ("caught", 0, "end")])
        self.assertEqual((desk.open_names(), desk.loss()), ((), (0, 1)))

    def test_no_claims(self):
        desk, _ = self.pair(sheet_of("prime 7\n"))
        self.assertEqual([desk.open_names(), desk.loss(), desk.asked()], [(), (0, 1), (0, 0)])
        self.refused(NothingDone, desk, (), desk.undo)

    def test_drawn_ones(self):
        for seed in range(54):
            self.pair(sheet_for(seed))

    def test_wrong_sheets(self):
        for wrong in wrong_sheets():
            self.fails(NoSheet, {}, Desk, wrong)

    def test_a_sheet_that_is_changed_behind_its_desk(self):
        sheet = sheet_of(SHEET)
        plain = PlainDesk(sheet_of(SHEET))
        desk = Desk(sheet)
        sheet["prime"] = 7
        sheet["claims"]["ca"] = ("count", "f", 0)
        for part in ("forms", "webs", "tables", "marks"):
            sheet[part].clear()
        self.agree(desk, plain)
        sheet["claims"].clear()
        sheet["names"] = ()
        for at in range(3):
            self.answer(desk, plain, "ca", 90 + at)
        sheet.clear()
        for at in range(4):
            self.answer(desk, plain, "cc", 90 + at)
        self.assertEqual(desk.state("cc"), ("passed",))


class RoundsTest(DeskCase):
    def test_right_claims_by_plain_answers(self):
        desk, plain = self.pair(sheet_of(SHEET))
        turn = 0
        while desk.open_names():
            names = desk.open_names()
            self.answer(desk, plain, names[turn % len(names)], numbers_for(101, turn, 1)[0])
            turn += 1
        self.assertEqual([desk.state(name) for name in plain.led], [("passed",)] * 7)
        self.assertEqual(desk.asked()[1], 3 + 6 + 4 + 9)

    def test_wrong_claims_by_plain_answers(self):
        desk, plain = self.pair(sheet_of(WRONGED))
        for name in WITH_ROUNDS:
            self.answer(desk, plain, name, 5)
            self.assertEqual(desk.state(name), ("caught", 0, "rule" if name == "ce" else "halves"))
        self.assertEqual((desk.open_names(), desk.loss()), ((), (0, 1)))

    def test_what_is_heard(self):
        for name in WITH_ROUNDS:
            for wrong in wrong_lines(101)[::7] + [None, [1, 2], (0,), (101,)]:
                desk, plain = self.pair(sheet_of(SHEET))
                self.answer(desk, plain, name, 7)
                self.hear(desk, plain, name, wrong, 9)
                self.assertEqual(desk.state(name), ("caught", 1, "line"))
                self.assertEqual(desk.asked(), (len(plain.told(name)[0][0]), 1))
            for wrong in ((0, 0, 0, 1), (1,) * 200, (0,) * 100 + (1,)):
                desk, plain = self.pair(sheet_of(SHEET))
                self.hear(desk, plain, name, wrong, 9)
                self.assertEqual(desk.state(name), ("caught", 0, "degree"))
                self.assertEqual(desk.asked(), (len(wrong), 0))
                self.assertEqual(desk.talk(name), "line " + " ".join(map(str, wrong)) + "\n")
            desk, plain = self.pair(sheet_of(SHEET))
            self.hear(desk, plain, name, (50, 1), 9)
            self.assertEqual(desk.state(name), ("caught", 0, "rule" if name == "ce" else "halves"))

    def test_wrong_at_the_end(self):
        # What is told otherwise in the last round is 0 where it is looked at, but not where it is drawn.
        for name, by in (("ca", (1, 99)), ("cb", (0, 1, 100)), ("cc", (0, 1, 100)), ("ch", None)):
            desk, plain = self.pair(sheet_of(SHEET + "claim ch : holds f by m is 1\n"))
            rounds = len(degrees_of(plain.led[name]))
            for at in range(rounds - 1):
                self.answer(desk, plain, name, 20 + at)
            if by is None:
                numbers = names_numbers(plain.led[name][1][1], plain.led[name][1][2], tuple(range(20, 19 + rounds)))
                by = (101 - numbers[2], 1)
            self.hear(desk, plain, name, plain_sum(101, plain.plain(name), by, 1), 60)
            self.assertEqual(desk.state(name), ("caught", rounds, "end"))
            self.assertEqual(desk.asked()[1], rounds)
            self.assertNotIn(name, desk.open_names())

    def test_closed_ones(self):
        desk, plain = self.pair(sheet_of(SHEET))
        for name in ("cd", "cf", "cg"):
            for draw in (5, None, 101):
                self.refused(Closed, desk, plain.led, lambda: desk.hear(name, (1,), draw))
                self.refused(Closed, desk, plain.led, lambda: desk.answer(name, draw))
        self.hear(desk, plain, "ca", None, 5)
        self.refused(Closed, desk, plain.led, lambda: desk.hear("ca", (1,), 5))
        self.refused(Closed, desk, plain.led, lambda: desk.answer("ca", None))
        for at in range(4):
            self.answer(desk, plain, "cc", at)
        self.refused(Closed, desk, plain.led, lambda: desk.answer("cc", 5))

    def test_talks_can_be_read(self):
        desk, plain = self.pair(sheet_of(SHEET))
        for name in WITH_ROUNDS:
            for at in range(3):
                self.answer(desk, plain, name, 2 + at)
                lines, draws = read_talk(101, desk.talk(name))
                self.assertEqual([lines, draws], [tuple(line for line, _ in plain.told(name)), tuple(range(2, 3 + at))])

    def test_what_the_judges_tell(self):
        for seed in range(20):
            sheet = sheet_for(seed)
            p = sheet["prime"]
            desk, plain = Desk(sheet), PlainDesk(sheet)
            for at, name in enumerate(desk.open_names()):
                led, rounds = plain.led[name], len(degrees_of(plain.led[name]))
                draws = numbers_for(p, seed + at, rounds)
                lines = []
                while desk.state(name)[0] == "open":
                    done = len(lines)
                    line = (plain_line if led[0] == "sum" else marked_line)(led[1], draws[:done])
                    if (seed + at + done) % 5 == 0:
                        line = plain_sum(p, line, (1, p - 2), 1)
                    lines.append(line)
                    desk.hear(name, line, draws[done])
                told = judged(led[1], lines, draws) if led[0] == "sum" else marked_judged(led[1], lines, draws)
                self.assertEqual(desk.state(name), told)

    def test_rounds_of_claims_with_marks(self):
        desk, plain = self.pair(sheet_of(SHEET))
        rounds = rounds_of(plain.led["ce"][1])
        self.assertEqual(len(rounds), 9)
        for at in range(9):
            self.assertEqual(desk.state("ce")[:2], ("open", at))
            self.answer(desk, plain, "ce", 40 + at)
        self.assertEqual(desk.state("ce"), ("passed",))


class UndoTest(DeskCase):
    def test_each_sort_of_deed(self):
        desk, plain = self.pair(sheet_of(SHEET))
        deeds = [("answer", "ca", None), ("hear", "cb", None), ("answer", "cc", None), ("hear", "cc", (50, 1)), ("answer", "ca", None),
                 ("hear", "ce", (1,) * 9), ("answer", "ca", None)]
        for at, (kind, name, line) in enumerate(deeds):
            if kind == "answer":
                self.answer(desk, plain, name, 60 + at)
            else:
                self.hear(desk, plain, name, line, 60 + at)
        self.assertEqual(desk.state("ca"), ("passed",))
        for _ in deeds:
            self.undo(desk, plain)
        self.refused(NothingDone, desk, plain.led, desk.undo)
        self.assertEqual(desk.asked(), (0, 0))

    def test_deeds_behind_it(self):
        desk, plain = self.pair(sheet_of(SHEET))
        self.answer(desk, plain, "ca", 5)
        self.hear(desk, plain, "ca", (1, 2, 3), 6)
        self.undo(desk, plain)
        self.answer(desk, plain, "ca", 7)
        self.answer(desk, plain, "cb", 8)
        self.undo(desk, plain)
        self.undo(desk, plain)
        self.answer(desk, plain, "ca", 9)
        self.answer(desk, plain, "ca", 10)
        self.assertEqual(desk.state("ca"), ("passed",))
        for _ in range(3):
            self.undo(desk, plain)
        self.refused(NothingDone, desk, plain.led, desk.undo)
        self.answer(desk, plain, "ca", 11)
        self.undo(desk, plain)

    def test_errors_are_no_deeds(self):
        desk, plain = self.pair(sheet_of(SHEET))
        self.answer(desk, plain, "ca", 5)
        for kind, call in (
                (BadNumber, lambda: desk.answer("ca", 101)), (BadNumber, lambda: desk.hear("cb", (1,), None)),
                (NoClaim, lambda: desk.hear("cx", (1,), 5)), (Closed, lambda: desk.answer("cd", 5))):
            self.refused(kind, desk, plain.led, call)
        self.undo(desk, plain)
        self.refused(NothingDone, desk, plain.led, desk.undo)

    def test_drawn_deeds(self):
        for seed in range(16):
            sheet = sheet_for(seed)
            p = sheet["prime"]
            desk, plain = self.pair(sheet)
            for turn, mark in enumerate(numbers_for(1000, seed, 25)):
                names = desk.open_names()
                draw = numbers_for(p, turn, 1)[0]
                if mark % 6 == 0 and plain.deeds:
                    self.undo(desk, plain)
                elif names and mark % 6 == 1:
                    lines = ((), (1,), (1, 1), (0, 1), None, (1,) * 40, (p,), "line")
                    self.hear(desk, plain, names[mark % len(names)], lines[mark % 8], draw)
                elif names and mark % 6 == 2:
                    name = names[mark % len(names)]
                    self.hear(desk, plain, name, plain.plain(name), draw)
                elif names:
                    self.answer(desk, plain, names[mark % len(names)], draw)
            while plain.deeds:
                self.undo(desk, plain)
            self.refused(NothingDone, desk, plain.led, desk.undo)


class WrongInputsTest(DeskCase):
    def test_names(self):
        desk, plain = self.pair(sheet_of(SHEET))
        for wrong in any_values() + bad_tuples() + [0, HUGE, "CA", "ca ", "f", "w", "a", ("ca",), ["ca"], {"ca": 1}]:
            for call in (lambda: desk.state(wrong), lambda: desk.talk(wrong), lambda: desk.hear(wrong, (1,), 5), lambda: desk.answer(wrong, 5),
                         lambda: desk.hear(wrong, None, None), lambda: desk.answer(wrong, None)):
                self.refused(NoClaim, desk, ("ca",), call)

    def test_draws(self):
        desk, plain = self.pair(sheet_of(SHEET))
        for wrong in wrong_numbers(101):
            for call in (lambda: desk.hear("ca", (1,), wrong), lambda: desk.hear("ca", None, wrong), lambda: desk.answer("cb", wrong)):
                self.refused(BadNumber, desk, ("ca", "cb"), call)

    def test_order(self):
        desk, plain = self.pair(sheet_of(SHEET))
        self.refused(NoClaim, desk, plain.led, lambda: desk.hear("x", (0,), 101))
        self.refused(Closed, desk, plain.led, lambda: desk.hear("cd", (0,), 101))
        self.refused(BadNumber, desk, plain.led, lambda: desk.hear("ca", (0,), 101))
        self.assertEqual(desk.hear("ca", (0,), 100), ("caught", 0, "line"))

    def test_desks_by_themselves(self):
        sheet = sheet_of(SHEET)
        one, other = Desk(sheet), Desk(sheet)
        one.answer("ca", 5)
        self.assertEqual((other.state("ca"), other.asked()), (("open", 0, 5), (0, 0)))
        self.assertEqual(sheet, sheet_of(SHEET))
        other.answer("ca", 5)
        self.assertEqual(one.state("ca"), other.state("ca"))

    def test_lines_that_are_handed_in(self):
        desk = Desk(sheet_of(SHEET))
        line = [1, 2]
        desk.hear("ca", line, 5)
        self.assertEqual((line, desk.state("ca")), ([1, 2], ("caught", 0, "line")))

    def test_points_by_is_claim_so(self):
        for seed in range(54):
            sheet = sheet_for(seed)
            desk = Desk(sheet)
            for name in sheet["claims"]:
                if desk.state(name)[0] != "open":
                    self.assertEqual(desk.state(name) == ("passed",), is_claim_so(sheet, name))


if __name__ == "__main__":
    unittest.main()
