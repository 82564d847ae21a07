"""Point [1]: the order of the errors of one call, and that calls leave nothing behind."""

import unittest

from pointsenough import answerers, errors, lines, numbers, rules, sums, tables, talks
from tests.support import BIG, HUGE, PointCase, power_rule

LONGEST = (1,) * 200

BAD_P = (None, True, "7", 9, 3, [7], HUGE)
BAD_NUMBER = (None, True, 7, -1, "1", (1,), [1], HUGE)
BAD_LINE = (None, (0,), (1, 0), (7,), [1, 2], (True,), {0: 1}, (1,) * 201, 1)
BAD_PAIRS = (None, ((1,),), ((1, 7),), [(1, 2)], {1: 2}, ((1, 1), (1, 1), 1), ((0, 0),) * 61, 5)
BAD_PLACES = (None, (7,), (True,), [1], "12", (1,) * 61, 3)
BAD_TABLE = (None, (), (1, 2, 3), (7,), [1, 2], (False, 1), {0: 1}, (1,) * 2048, 1)
BAD_POINT = (None, (7,), [1], (True,), "1", (1,) * 25, {}, 1)
BAD_MANY = (None, True, -1, 25, "2", (2,), [2], HUGE)
BAD_RULE = (None, (), ("number", 7), ("name", 2), ["number", 1], ("name", True), ("table", (1, 2), ()), 3)
BAD_NAME = (None, False, -1, 2, "0", (0,), ("name", 0), HUGE)
RULE = ("times", ("name", 0), ("plus", ("name", 0), ("table", (1, 2), (("name", 1),))))
SUM = (7, 2, RULE, 5)
BAD_SUM = (None, (), [7, 2, RULE, 5], (9, 2, RULE, 5), (7, 1, RULE, 5), (7, 2, power_rule(31), 5), (7, 2, RULE, 7), 5)
BAD_DRAWS = (None, (1,), (1, 2, 3), (1, 7), [1, 2], (1, True), "12", 2)
BAD_LINES = (None, ((0,),), [(1,)], ((1,), None), {0: (1,)}, "line", 1, True)
BAD_DEGREE = (None, True, -1, 31, "2", (2,), [2], HUGE)
BAD_ANSWERER = (None, (), "plain", ["plain"], ("worst",), ("by",), ("by", (((1, 2), (1,)),)), ("by", (((), (0,)),)))
BAD_TEXT = (None, True, 1, b"line", ("line",), ["line"], {"line": 1}, ())
PAST_TALK = "line\ndraw 1\n" * 3

# Each call: the function, right arguments, and for each argument wrong values and their error.
CALLS = (
    (numbers.inverse, (7, 3), ((BAD_P, "BadPrime"), (BAD_NUMBER, "BadNumber"))),
    (numbers.power, (7, 3, 2), ((BAD_P, "BadPrime"), (BAD_NUMBER, "BadNumber"), ((-1, None, True, "2"), "BadNumber"))),
    (lines.at, (7, (1, 2), 3), ((BAD_P, "BadPrime"), (BAD_LINE, "BadLine"), (BAD_NUMBER, "BadNumber"))),
    (lines.plus, (7, (1,), (2,)), ((BAD_P, "BadPrime"), (BAD_LINE, "BadLine"), (BAD_LINE, "BadLine"))),
    (lines.minus, (7, (1,), (2,)), ((BAD_P, "BadPrime"), (BAD_LINE, "BadLine"), (BAD_LINE, "BadLine"))),
    (lines.times, (7, LONGEST, (1,)), ((BAD_P, "BadPrime"), (BAD_LINE, "BadLine"), (BAD_LINE, "BadLine"))),
    (lines.scaled, (7, (1,), 2), ((BAD_P, "BadPrime"), (BAD_LINE, "BadLine"), (BAD_NUMBER, "BadNumber"))),
    (lines.divided, (7, (1,), (2,)), ((BAD_P, "BadPrime"), (BAD_LINE, "BadLine"), (BAD_LINE + ((),), None))),
    (lines.through, (7, ((1, 2),)), ((BAD_P, "BadPrime"), (BAD_PAIRS, "BadPoints"))),
    (lines.with_noughts, (7, (1, 2)), ((BAD_P, "BadPrime"), (BAD_PLACES, "BadPoints"))),
    (lines.noughts, (7, (1, 2)), ((BAD_P, "BadPrime"), (BAD_LINE, "BadLine"))),
    (lines.led, (7, (1, 2), 3, 4), (
        (BAD_P, "BadPrime"), (BAD_LINE, "BadLine"), (BAD_NUMBER, "BadNumber"), (BAD_NUMBER, "BadNumber"))),
    (tables.spread, (7, (1, 2), (3,)), ((BAD_P, "BadPrime"), (BAD_TABLE, "BadTable"), (BAD_POINT + ((),), "BadPoint"))),
    (tables.weights, (7, (3,)), ((BAD_P, "BadPrime"), (BAD_POINT + ((1,) * 11,), "BadPoint"))),
    (tables.alike, (7, (1,), (2,)), ((BAD_P, "BadPrime"), (BAD_POINT, "BadPoint"), (BAD_POINT, "BadPoint"))),
    (tables.behind, (7, (1,), (2,)), ((BAD_P, "BadPrime"), (BAD_POINT, "BadPoint"), (BAD_POINT, "BadPoint"))),
    (tables.held, (7, (1, 2), 3), (
        (BAD_P, "BadPrime"), (BAD_TABLE + ((1,),), "BadTable"), (BAD_NUMBER, "BadNumber"))),
    (tables.whole, (7, (1, 2)), ((BAD_P, "BadPrime"), (BAD_TABLE, "BadTable"))),
    (tables.spread_noughts, (7, (1, 2)), ((BAD_P, "BadPrime"), (BAD_TABLE, "BadTable"))),
    (rules.is_rule, (7, 2, RULE), ((BAD_P, "BadPrime"), (BAD_MANY, None), (BAD_RULE, None))),
    (rules.value, (7, 2, RULE, (3, 4)), (
        (BAD_P, "BadPrime"), (BAD_MANY, "BadMany"), (BAD_RULE, "BadRule"), (BAD_POINT + ((), (1, 2, 3)), "BadPoint"))),
    (rules.put, (7, 2, RULE, 0, 1), (
        (BAD_P, "BadPrime"), (BAD_MANY, "BadMany"), (BAD_RULE, "BadRule"), (BAD_NAME, "BadName"),
        (BAD_NUMBER, "BadNumber"))),
    (rules.row_values, (7, 2, RULE), ((BAD_P, "BadPrime"), (BAD_MANY + (11, 24), "BadMany"), (BAD_RULE, "BadRule"))),
    (rules.sum_of, (7, 2, RULE), ((BAD_P, "BadPrime"), (BAD_MANY + (11, 24), "BadMany"), (BAD_RULE, "BadRule"))),
    (sums.is_so, (SUM,), ((BAD_SUM, "BadSum"),)),
    (sums.plain_line, (SUM, (1,)), ((BAD_SUM, "BadSum"), (BAD_DRAWS[:1] + ((1, 2),) + BAD_DRAWS[2:], "BadDraws"))),
    (sums.judged, (SUM, ((0, 3, 2), (5, 3)), (3, 4)), ((BAD_SUM, "BadSum"), (BAD_LINES, None), (BAD_DRAWS, "BadDraws"))),
    (sums.claims, (SUM, ((0, 3, 2), (5, 3)), (3, 4)), ((BAD_SUM, "BadSum"), (BAD_LINES, None), (BAD_DRAWS, "BadDraws"))),
    (sums.loss, (SUM,), ((BAD_SUM, "BadSum"),)),
    (sums.work, (SUM,), ((BAD_SUM, "BadSum"),)),
    (sums.best_line, (7, (1, 2), 3, 2), (
        (BAD_P, "BadPrime"), (BAD_LINE, "BadLine"), (BAD_NUMBER, "BadNumber"), (BAD_DEGREE, "BadDegree"))),
    (answerers.is_answerer, (SUM, ("best",)), ((BAD_SUM, None), (BAD_ANSWERER, None))),
    (answerers.lines_of, (SUM, ("best",), (3, 4)), (
        (BAD_SUM, "BadSum"), (BAD_ANSWERER, "BadAnswerer"), (BAD_DRAWS, "BadDraws"))),
    (answerers.share_of, (SUM, ("best",)), ((BAD_SUM, "BadSum"), (BAD_ANSWERER, "BadAnswerer"))),
    (answerers.chances, (SUM, ("best",)), ((BAD_SUM, "BadSum"), (BAD_ANSWERER, "BadAnswerer"))),
    (talks.write_talk, (7, ((1,), (2,)), (3,)), (
        (BAD_P, "BadPrime"), (BAD_LINES, "BadLines"), (BAD_DRAWS[:1] + BAD_DRAWS[2:], "BadDraws"))),
    (talks.read_talk, (7, "line\ndraw 1\n"), ((BAD_P, "BadPrime"), (BAD_TEXT, "NotText"))),
    (talks.heard, (SUM, "line 0 3 2\n"), ((BAD_SUM, "BadSum"), (BAD_TEXT, "NotText"))),
    (lines.is_line, (7, (1, 2)), ((BAD_P, "BadPrime"), (BAD_LINE, None))),
    (tables.is_table, (7, (1, 2)), ((BAD_P, "BadPrime"), (BAD_TABLE, None))),
)


class FirstErrorTest(PointCase):
    def test_several_wrong_arguments(self):
        self.first_errors(CALLS)

    def test_of_one_parameter_in_the_order_told(self):
        self.fails(errors.BadNumber, {}, numbers.inverse, 7, False)
        self.fails(errors.Nought, {}, numbers.inverse, 7, 0)
        self.fails(errors.BadPoints, {}, lines.through, 7, ((1, 1), (1, 1), (1, 7)))
        self.fails(errors.SamePlace, {"place": 1}, lines.through, 7, ((1, 1), (1, 1), (1, 6)))

    def test_of_several_parameters_behind_those_of_each(self):
        for function in (tables.alike, tables.behind):
            self.fails(errors.BadPrime, {}, function, 9, (1, 2), (1,))
            self.fails(errors.BadPoint, {}, function, 7, (1, 2), (7,))
            self.fails(errors.BadPoint, {}, function, 7, (7, 1), (1,))
            self.fails(errors.BadPoint, {}, function, 7, (1,) * 25, (1,))
            self.fails(errors.UnlikePoints, {}, function, 7, (1, 2), (1,))
        self.fails(errors.BadLine, {}, lines.divided, 7, (0,), ())
        self.fails(errors.BadTable, {}, tables.held, 7, (1,), 7)
        self.fails(errors.BadTable, {}, tables.spread, 7, (1, 2, 3), (1,))
        self.fails(errors.BadLines, {}, talks.write_talk, 7, ((1,), (7,)), (1, 2, 3))
        self.fails(errors.BadPrime, {}, talks.write_talk, 9, ((1,), (2,)), (1, 2, 3))
        self.fails(errors.BadRule, {}, rules.value, 7, 1, RULE, (3, 4))
        self.fails(errors.BadMany, {}, rules.value, 7, 25, RULE, (3, 4))
        self.fails(errors.BadMany, {}, rules.row_values, 7, 11, ("name", 11))

    def test_at_last(self):
        self.fails(errors.BadLine, {}, lines.times, 7, LONGEST, (1,) * 199 + (7,))
        self.fails(errors.TooMany, {"most": 200}, lines.times, 7, LONGEST, LONGEST)
        self.fails(errors.BadLine, {}, lines.noughts, BIG, (0,))
        self.fails(errors.Nought, {}, lines.noughts, BIG, ())
        self.fails(errors.TooGreat, {"most": 10007}, lines.noughts, BIG, (1,))
        self.fails(errors.BadPrime, {}, lines.noughts, BIG + 2, ())
        self.fails(errors.BadTable, {}, tables.spread_noughts, BIG, (1, 2, 3))
        self.fails(errors.TooGreat, {"most": 100000}, tables.spread_noughts, BIG, (1, 2))
        self.fails(errors.BadPrime, {}, tables.spread_noughts, BIG + 2, (1, 2))
        for function in (answerers.share_of, answerers.chances):
            great = (BIG, 2, RULE, 5)
            self.fails(errors.TooGreat, {"most": 30000}, function, great, ("plain",))
            self.fails(errors.BadAnswerer, {}, function, great, ("worst",))
            self.fails(errors.BadSum, {}, function, great[:3], ("worst",))
        self.fails(errors.BadDraws, {}, talks.heard, SUM, PAST_TALK)
        self.fails(errors.BadTalk, {"at": 6}, talks.heard, SUM, PAST_TALK + "draw 1\n")
        self.fails(errors.BadTalk, {"at": 5}, talks.heard, SUM, PAST_TALK[:-1])
        self.fails(errors.NotText, {}, talks.heard, SUM, [PAST_TALK])
        self.fails(errors.BadSum, {}, talks.heard, (7, 2, RULE), PAST_TALK)


class NothingKeptTest(PointCase):
    def test_equal_calls_have_equal_answers_in_any_order(self):
        calls = [(function, right) for function, right, _ in CALLS]
        calls += [(function, (11,) + right[1:]) for function, right in calls if right[0] == 7]
        calls += [(function, ((11,) + SUM[1:],) + right[1:]) for function, right in calls if right[0] == SUM]
        calls += [(tables.row_of, (3, 5)), (tables.index_of, ((1, 0, 1),)), (numbers.is_prime, (7,))]
        calls += [(lines.at, (p, (1, 2, 3), 4)) for p in (5, 7, 11, BIG)]
        self.same_backward(calls)

    def test_errors_leave_nothing_behind(self):
        self.nothing_left_behind(CALLS)


if __name__ == "__main__":
    unittest.main()
