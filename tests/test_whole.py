"""What holds over the whole program: right claims of each sort pass, wrong ones seldom, and all parts tell the same."""

import unittest
from fractions import Fraction
from itertools import product

from pointsenough.cases import (
    case_draws, case_judged, case_lines, case_loss, case_rounds, case_text, is_case, read_case)
from pointsenough.desks import Desk
from pointsenough.forms import count_sum, form_of, form_rule
from pointsenough.marks import rounds_of, worth
from pointsenough.rules import row_values, sum_of, told_degrees
from pointsenough.sayings import saying_holds, saying_marked, saying_of, saying_rule, saying_sum, saying_text
from pointsenough.sheets import claim_loss, is_claim_so, led_claim, sheet_of, sheet_text
from pointsenough.sums import is_so
from pointsenough.talks import heard
from tests.cases import draws_for, product_case, program_case, right_cases, run_case, wrong_case
from tests.sheets import SHEET, WRONGED, sheet_for
from tests.support import PointCase, bits, most_passes, numbers_for
from tests.test_marks import names_numbers
from tests.test_sayings import all_values, bits_of, plain_marked_truth, saying_for, widest

X0, X1 = ("name", 0), ("name", 1)
SMALL = (
    ("sum", (5, 0, ("number", 3), 3)), ("sum", (5, 1, X0, 1)), ("sum", (5, 1, ("times", X0, ("plus", X0, X0)), 2)),
    ("sum", (5, 2, ("times", X0, X1), 1)), ("sum", (7, 2, ("minus", X0, ("table", (1, 2, 3, 4), (X0, X1))), 6)),
    ("marked", (5, (), ("number", 3), 3)), ("marked", (5, ("all",), X0, 0)), ("marked", (5, ("some",), ("times", X0, X0), 1)),
    ("marked", (5, ("all", "some"), form_rule(5, ("xor", X0, X1)), 1)),
    product_case(5, (0, 0, 0), 1), product_case(5, (0, 1, 0), 2), product_case(5, (1, 1, 0), 3), product_case(5, (1, 0, 1), 4),
    program_case(5, (1, ((("+", 0, 0),),)), 1), program_case(5, (1, ((("*", 0, 0), ("+", 0, 0)),)), 2),
    program_case(5, (2, ((("*", 0, 1),),)), 3), program_case(5, (1, ((("+", 0, 0), ("*", 0, 0)), (("*", 1, 0),))), 4),
)


def all_draws(case):
    p = case[1][0] if case[0] in ("sum", "marked") else case[1]
    return product(range(p), repeat=case_draws(case))


class CasesTest(PointCase):
    def test_right_ones_pass_at_all_draws_tried(self):
        for seed, case in enumerate(right_cases()):
            for turn in range(3):
                draws = draws_for(case, seed * 5 + turn)
                self.assertEqual(case_judged(case, case_lines(case, draws), draws), ("passed",))

    def test_small_right_ones_pass_at_all_draws(self):
        for case in SMALL:
            for draws in all_draws(case):
                self.assertEqual(case_judged(case, case_lines(case, draws), draws), ("passed",))

    def test_small_wrong_ones_with_plain_lines(self):
        for case in SMALL:
            for by in (1, 3):
                wrong = wrong_case(case, by)
                told = [case_judged(wrong, case_lines(wrong, draws), draws) for draws in all_draws(wrong)]
                self.assertLessEqual(Fraction(told.count(("passed",)), len(told)), Fraction(*case_loss(wrong)))

    def test_small_wrong_ones_whoever_answers(self):
        for case in SMALL:
            wrong = wrong_case(case, 1)
            kind, p = wrong[0], 5
            if kind == "sum" and wrong[1][0] == 5:
                degrees, ahead, state = told_degrees(wrong[1][1], wrong[1][2]), 0, lambda draws: draws
            elif kind == "marked":
                degrees, ahead = [degree for _, _, degree in rounds_of(wrong[1])], 0
                marks, rule = wrong[1][1], wrong[1][2]

                def state(draws, marks=marks, rule=rule):
                    return names_numbers(marks, rule, draws)
            elif kind == "product":
                degrees, ahead, state = (2,) * wrong[4][1], wrong[4][0] + wrong[4][2], lambda draws: draws
            elif kind == "program" and wrong[2][0] == 1:
                layers = [bits(len(gates)) for gates in wrong[2][1]]
                degrees = [degree for names in [*layers[-2::-1], 0] for degree in [2] * (2 * names) + [names]]
                ahead, state = layers[-1], lambda draws: draws
            else:
                continue
            self.assertEqual(len(degrees), case_rounds(wrong))
            if len(degrees) > 4:
                continue
            passes = most_passes(p, degrees, ahead, lambda lines, draws: case_judged(wrong, lines, draws), state)
            self.assertLessEqual(Fraction(passes, p ** case_draws(wrong)), Fraction(*case_loss(wrong)))
            if kind == "sum":
                self.assertEqual(Fraction(passes, p ** case_draws(wrong)), Fraction(*case_loss(wrong)))

    def test_wrong_ones_with_plain_lines_at_draws_tried(self):
        for seed, case in enumerate(right_cases()):
            wrong = wrong_case(case, 1 + seed % 3)
            p = case[1][0] if case[0] in ("sum", "marked") else case[1]
            if p > 100:
                for turn in range(2):
                    draws = draws_for(wrong, seed * 3 + turn)
                    told = case_judged(wrong, case_lines(wrong, draws), draws)
                    # By a great prime a wrong claim passes so seldom that it is caught at all draws tried.
                    self.assertTrue(told[0] == "caught" or p == 101, (wrong[0], told))

    def test_texts_carry_all_that_the_judge_needs(self):
        for seed, case in enumerate(right_cases()):
            for one in (case, wrong_case(case, 2)):
                draws = draws_for(one, seed)
                lines = case_lines(one, draws)
                again = read_case(case_text(one, lines, draws))
                self.assertEqual(case_judged(*again), case_judged(one, lines, draws))

    def test_runs_by_their_texts(self):
        case = run_case(101, "set b 1\nifnought a 5\nmul b a\nadd a c\ngoto 1\n", (5, 0, 100), 4)
        draws = draws_for(case, 3)
        told, lines, drawn = read_case(case_text(case, case_lines(case, draws), draws))
        self.assertEqual((told, drawn, case_judged(told, lines, drawn)), (case, draws, ("passed",)))
        for result in ((0, 0, 0), (case[4][0] + 1,) + case[4][1:]):
            wrong = case[:4] + (result, case[5])
            self.assertEqual(case_judged(wrong, lines, drawn), ("caught", 0, "result"))


class SheetsTest(PointCase):
    def case_of(self, sheet, name):
        led = led_claim(sheet, name)
        return led if led[0] != "point" else None

    def test_the_desk_tells_what_the_judges_tell(self):
        for sheet in [sheet_of(SHEET), sheet_of(WRONGED)] + [sheet_for(seed) for seed in range(18)]:
            desk = Desk(sheet)
            for at, name in enumerate(sheet["claims"]):
                case = self.case_of(sheet, name)
                if case is None:
                    self.assertEqual(desk.state(name)[0] == "passed", is_claim_so(sheet, name))
                    continue
                self.assertTrue(is_case(case))
                self.assertEqual(case_loss(case), claim_loss(sheet, name))
                draws = draws_for(case, at)
                lines = case_lines(case, draws)
                for line, draw in zip(lines, draws):
                    if desk.state(name)[0] == "open":
                        desk.answer(name, draw)
                self.assertEqual(desk.state(name), case_judged(case, lines, draws))
                if is_claim_so(sheet, name):
                    self.assertEqual(desk.state(name), ("passed",))
                if case[0] == "sum":
                    self.assertEqual(desk.state(name), heard(case[1], desk.talk(name)))

    def test_sheets_by_their_texts(self):
        for seed in range(30):
            sheet = sheet_for(seed)
            again = sheet_of(sheet_text(sheet))
            for name in sheet["claims"]:
                self.assertEqual(led_claim(again, name), led_claim(sheet, name))
                self.assertEqual(is_claim_so(again, name), is_claim_so(sheet, name))


class SayingsTest(PointCase):
    def test_all_tell_the_same(self):
        for p in (11, 101):
            for given in ((("x", 1),), (("x", 2), ("y", 1)), (("a", 1), ("b", 1), ("c", 1)), ()):
                for seed in range(25):
                    tree = saying_for(given, seed + 5, seed % 3, 1)
                    if widest(given, tree) > 10:
                        continue
                    self.assertEqual(saying_of(given, saying_text(given, tree)), tree)
                    truth = [int(saying_holds(given, tree, values)) for values in all_values(given)]
                    many, rule = bits_of(given), saying_rule(p, given, tree)
                    self.assertEqual(row_values(p, many, rule), tuple(truth))
                    self.assertEqual(sum_of(p, many, rule), sum(truth) % p)
                    if max(told_degrees(many, rule), default=0) <= 30:
                        self.as_claims(p, given, tree, truth, seed)

    def as_claims(self, p, given, tree, truth, seed):
        """The same as a sum and as claims with marks, and what their judges tell."""
        for claim in {sum(truth) % p, (sum(truth) + 1) % p}:
            case = ("sum", saying_sum(p, given, tree, claim))
            self.assertEqual(is_so(case[1]), claim == sum(truth) % p)
            self.judged_as(case, claim == sum(truth) % p, seed)
        for row in numbers_for(2 ** len(given), seed, 2):
            marks = tuple(("all", "some")[row >> at & 1] for at in range(len(given)))
            so = int(plain_marked_truth(given, marks, tree))
            for claim in (so, 1 - so):
                case = ("marked", saying_marked(p, given, marks, tree, claim))
                self.assertEqual(worth(case[1]), so)
                self.judged_as(case, claim == so, seed)

    def judged_as(self, case, so, seed):
        draws = draws_for(case, seed)
        lines = case_lines(case, draws)
        # The plain lines of a wrong claim are caught in the first round, or at the end where there is none.
        told = case_judged(case, lines, draws)
        self.assertEqual(told[:2], ("passed",) if so else ("caught", 0))
        self.assertEqual(read_case(case_text(case, lines, draws)), (case, lines, draws))

    def test_forms_and_sayings(self):
        # A var of one bit that is 1 is as a name that is yes.
        names, given = ("a", "b", "c"), (("a", 1), ("b", 1), ("c", 1))
        for text in ("a and b", "a or not b", "not (a xor c) and b", "a xor b or c", "yes and a"):
            tree = form_of(names, text)
            said = text
            for name in names:
                said = " ".join(word.replace(name, f"{name} = 1") if word.strip("()") == name else word for word in said.split(" "))
            counted = [claim for claim in range(9) if is_so(count_sum(11, 3, tree, claim))]
            self.assertEqual([claim for claim in range(9) if is_so(saying_sum(11, given, saying_of(given, said), claim))], counted)


if __name__ == "__main__":
    unittest.main()
