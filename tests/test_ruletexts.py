"""Points [1] and [44]: rules as texts."""

import unittest

from pointsenough.errors import BadMany, BadPrime, BadRule, BadRuleText, NotText
from pointsenough.rules import is_rule
from pointsenough.ruletexts import rule_of, rule_text
from tests.support import (
    BIG, HUGE, NUMBER, PointCase, deep_rule, exact, numbers_for, plus_tree, rule_for, shared_rule, wrong_many, wrong_primes,
    wrong_rules, wrong_texts,
)

RULE = ("times", ("name", 0), ("plus", ("name", 0), ("table", (1, 2), (("name", 1),))))
TEXT = "(x0 * (x0 + [1 2](x1)))"
SIZES = (1, 2, 4, 8, 16, 32, 64, 128, 256, 512, 1024)
FIGURES = "0123456789"


def plain_text(rule):
    word = rule[0]
    if word in ("number", "name"):
        return ("x" if word == "name" else "") + str(rule[1])
    if word == "table":
        return "[" + " ".join(map(str, rule[1])) + "](" + ", ".join(map(plain_text, rule[2])) + ")"
    sign = {"plus": "+", "minus": "-", "times": "*"}[word]
    return "(" + plain_text(rule[1]) + " " + sign + " " + plain_text(rule[2]) + ")"


class Beginnings:
    """Follows a text sign by sign: all that may still stand behind it, as rows of what is to come.

    What is to come is a sign, "R" and how deep a rule stands, "N" with the greatest number and what is read of it,
    "S" for the sign of a join, "P" for a place, "T" and how many numbers of a table there are."""

    def __init__(self, p, many):
        self.p, self.many = p, many
        self.rows = [(("R", 1),)]

    def begun(self, row):
        """The row with its first item led on, until a sign or a number comes first, in all ways."""
        if not row or row[0][0] in "N.":
            return [row]
        (kind, *told), rest = row[0], row[1:]
        number, name = ("N", self.p - 1, None), (".", "x")
        if kind == "R":
            ways = [(number,), (name, ("N", self.many - 1, None))] if self.many else [(number,)]
            deeper = ("R", told[0] + 1)
            if told[0] < 400:
                ways.append((signs("("), deeper, signs(" "), ("S",), signs(" "), deeper, signs(")")))
            ways.append((signs("["), number, ("T", 1)))
        elif kind == "S":
            ways = [(signs(sign),) for sign in "+-*"]
        elif kind == "P":
            ways = [(number,), (name, ("N", self.many - 1, None))] if self.many else [(number,)]
        else:
            ways = [(signs(" "), number, ("T", told[0] + 1))] if told[0] < 1024 else []
            if told[0] in SIZES:
                names = SIZES.index(told[0])
                places = [("P",)] * names
                between = [part for place in places for part in (signs(","), signs(" "), place)][2:]
                ways.append((signs("]"), signs("("), *between, signs(")")))
        return [found for way in ways for found in self.begun(way + rest)]

    def read(self, sign):
        """Whether a text may go on with a sign; it is read then."""
        told = []
        for row in [found for row in self.rows for found in self.begun(row)]:
            if row and row[0][0] == "N":
                _, most, number = row[0]
                if sign in FIGURES and number != 0 and (number or 0) * 10 + int(sign) <= most:
                    told.append((("N", most, (number or 0) * 10 + int(sign)),) + row[1:])
                if number is not None:
                    told += [found[1:] for found in self.begun(row[1:]) if found and found[0] == (".", sign)]
            elif row and row[0] == (".", sign):
                told.append(row[1:])
        self.rows = told
        return bool(told)

    def whole(self):
        return any(not row or len(row) == 1 and row[0][0] == "N" and row[0][2] is not None for row in self.rows)


def signs(sign):
    return (".", sign)


def first_bad(p, many, text):
    """The least index such that no text of a rule begins so, None for the text of a rule."""
    reader = Beginnings(p, many)
    for at, sign in enumerate(text):
        if not reader.read(sign):
            return at
    return None if reader.whole() else len(text)


class ExamplesTest(PointCase):
    def test_examples(self):
        self.tells(TEXT, rule_text, 7, 2, RULE)
        self.tells(RULE, rule_of, 7, 2, TEXT)


class TextTest(PointCase):
    def test_drawn_ones(self):
        for p in (5, 7, 11, 10007, BIG):
            for many in (0, 1, 2, 10, 11, 24):
                for seed in range(20):
                    rule = rule_for(p, many, seed, seed % 6)
                    text = self.tells(plain_text(rule), rule_text, p, many, rule)
                    self.tells(rule, rule_of, p, many, text)

    def test_each_sort(self):
        for rule, text in (
                (("number", 0), "0"), (("number", 6), "6"), (("name", 0), "x0"), (("name", 23), "x23"),
                (("plus", NUMBER, ("name", 1)), "(1 + x1)"), (("minus", NUMBER, NUMBER), "(1 - 1)"),
                (("times", ("name", 9), ("name", 10)), "(x9 * x10)"), (("table", (3,), ()), "[3]()"),
                (("table", (3, 0), (("number", 5),)), "[3 0](5)"), (("table", (0, 1), (("name", 20),)), "[0 1](x20)"),
                (("table", (1, 2, 3, 4), (("name", 1), ("number", 0))), "[1 2 3 4](x1, 0)"),
                (("plus", ("minus", NUMBER, ("name", 0)), ("times", NUMBER, ("table", (0,), ()))), "((1 - x0) + (1 * [0]()))")):
            self.tells(text, rule_text, 7, 24, rule)
            self.tells(rule, rule_of, 7, 24, text)

    def test_greatest_tables(self):
        places = tuple(("name", at) if at % 2 else ("number", at) for at in range(10))
        rule = ("table", numbers_for(BIG, 3, 1024), places)
        text = self.tells(plain_text(rule), rule_text, BIG, 24, rule)
        self.tells(rule, rule_of, BIG, 24, text)
        self.assertEqual(text[text.index("("):], "(0, x1, 2, x3, 4, x5, 6, x7, 8, x9)")

    def test_nested_at_400_and_401(self):
        for leaf, text in ((NUMBER, "1"), (("name", 0), "x0"), (("table", (5,), ()), "[5]()")):
            rule = deep_rule(400, leaf)
            self.tells("(" * 399 + text + f" + {text})" * 399, rule_text, 7, 1, rule)
            self.tells(rule, rule_of, 7, 1, "(" * 399 + text + f" + {text})" * 399)
            self.fails(BadRuleText, {"at": 399}, rule_of, 7, 1, "(" * 400 + text + f" + {text})" * 400)
            self.fails(BadRule, {}, rule_text, 7, 1, deep_rule(401, leaf))
            right = f"({text} - " * 399 + text + ")" * 399
            told = rule_of(7, 1, right)
            self.assertEqual(rule_text(7, 1, told), right)
            at = (len(text) + 4) * 399
            self.fails(BadRuleText, {"at": at}, rule_of, 7, 1, f"({text} - " * 400 + text + ")" * 400)
        self.fails(BadRuleText, {"at": 399}, rule_of, 7, 1, "(" * 399 + "(")
        self.fails(BadRuleText, {"at": 399}, rule_of, 7, 1, "(" * 399)

    def test_many_tuples(self):
        rule = plus_tree([NUMBER] * 1000)
        text = self.tells(plain_text(rule), rule_text, 7, 0, rule)
        self.tells(rule, rule_of, 7, 0, text)
        for many in (1001, 1002, 2000, 2400):
            more = plus_tree([NUMBER] * many)
            self.fails(BadRule, {}, rule_text, 7, 0, more)
            self.fails(BadRule, {}, rule_of, 7, 0, plain_text(more))
        self.fails(BadRule, {}, rule_of, 7, 0, plain_text(plus_tree([NUMBER] * 2858)))
        # What cannot stand in the text is told first.
        text = plain_text(plus_tree([NUMBER] * 1001))
        self.fails(BadRuleText, {"at": len(text) - 1}, rule_of, 7, 0, text[:-1])
        self.fails(BadRuleText, {"at": len(text)}, rule_of, 7, 0, text + " ")

    def test_20000_signs_and_20001(self):
        table = self.table_of(4000)
        for length in (19999, 20000, 20001, 20002):
            ahead = "((((" + table + f" + {table})" * 3 + " + "
            text = ahead + self.table_of(length - len(ahead) - 1) + ")"
            self.assertEqual(len(text), length)
            if length <= 20000:
                rule = rule_of(BIG, 0, text)
                self.tells(text, rule_text, BIG, 0, rule)
            else:
                self.fails(BadRuleText, {"at": 20000}, rule_of, BIG, 0, text)
        self.fails(BadRuleText, {"at": 20000}, rule_of, BIG, 0, "?" * 20001)
        self.fails(BadRuleText, {"at": 0}, rule_of, BIG, 0, "?" * 20000)

    def table_of(self, length):
        """The text of a table of 512 numbers that has so many signs."""
        rest = length - len("[](" + ", ".join(["1"] * 9) + ")") - 511
        each, more = rest // 512, rest % 512
        self.assertTrue(1 <= each <= 8)
        return "[" + " ".join(["1" * (each + (at < more)) for at in range(512)]) + "](" + ", ".join(["1"] * 9) + ")"

    def test_long_texts_are_written(self):
        rule = plus_tree([("table", (BIG - 1,) * 1024, (("number", 1),) * 10)] * 4)
        text = self.tells(plain_text(rule), rule_text, BIG, 0, rule)
        self.assertGreater(len(text), 20000)
        self.fails(BadRuleText, {"at": 20000}, rule_of, BIG, 0, text)


class BadTextTest(PointCase):
    def reads(self, p, many, text):
        at = first_bad(p, many, text)
        if at is not None:
            self.fails(BadRuleText, {"at": at}, rule_of, p, many, text)
        else:
            rule = rule_of(p, many, text)
            self.assertTrue(is_rule(p, many, rule))
            self.assertEqual((rule_text(p, many, rule), plain_text(rule)), (text, text))
        return at

    def test_at_each_sign(self):
        for p, many, text in (
                (7, 2, TEXT), (11, 12, "((x10 - 10) * [1 2 3 4](x1, x11))"), (5, 0, "([4]() + ([0 1](3) - 4))"), (13, 1, "x0"), (13, 1, "12"),
                (BIG, 3, f"({BIG - 1} + x2)"), (7, 3, "[1 2 3 4 5 6 0 1](x0, x1, x2)")):
            self.assertIsNone(self.reads(p, many, text))
            for at in range(len(text) + 1):
                for sign in ("", " ", "(", ")", "[", "]", "x", "0", "1", "9", ",", "+", "-", "*", ";", "X", "\n", "\u0661", "\u00b2"):
                    self.reads(p, many, text[:at] + sign + text[at + 1:])
                    self.reads(p, many, text[:at] + sign + text[at:])
                self.reads(p, many, text[:at])

    def test_all_short_texts(self):
        texts = [""]
        for _ in range(4):
            texts = [text + sign for text in texts for sign in "x01([ ])+,"]
            for text in texts:
                at = first_bad(5, 1, text)
                try:
                    rule_of(5, 1, text)
                    self.assertIsNone(at, text)
                except BadRuleText as error:
                    self.assertEqual(error.at, at, text)

    def test_by_hand(self):
        for p, many, text, at in (
                (7, 2, "", 0), (7, 2, "7", 0), (7, 2, "6", None), (7, 2, "60", 1), (7, 2, "00", 1), (7, 2, "01", 1), (7, 2, "-1", 0),
                (11, 2, "10", None), (11, 2, "11", 1), (11, 2, "100", 2), (101, 2, "100", None), (101, 2, "101", 2), (101, 2, "11", None),
                (101, 2, "110", 2), (7, 0, "x", 0), (7, 0, "x0", 0), (7, 1, "x", 1), (7, 1, "x0", None), (7, 1, "x1", 1), (7, 2, "x1", None),
                (7, 2, "x2", 1), (7, 2, "x00", 2), (7, 2, "x01", 2), (7, 10, "x10", 2), (7, 11, "x10", None), (7, 11, "x11", 2), (7, 24, "x23", None),
                (7, 24, "x24", 2), (7, 2, "x 0", 1), (7, 2, " x0", 0), (7, 2, "x0 ", 2), (7, 2, "(x0)", 3), (7, 2, "(1 + 1", 6), (7, 2, "(1 + 1)", None),
                (7, 2, "(1 + 1) ", 7), (7, 2, "(1+1)", 2), (7, 2, "(1 +1)", 4), (7, 2, "(1  + 1)", 3), (7, 2, "( 1 + 1)", 1), (7, 2, "(1 / 1)", 3),
                (7, 2, "(1 + 1 + 1)", 6), (7, 2, "1 + 1", 1), (7, 2, "[]()", 1), (7, 2, "[1]()", None), (7, 2, "[1](", 4), (7, 2, "[1](1)", 4),
                (7, 2, "[1 2]()", 6), (7, 2, "[1 2](1)", None), (7, 2, "[1 2](x1)", None), (7, 2, "[1 2](x2)", 7), (7, 2, "[1 2](7)", 6),
                (7, 2, "[1 2 3](1)", 6), (7, 2, "[1 2 3", 6), (7, 2, "[1 2 3 ", 7), (7, 2, "[1 2 3 4](1)", 11), (7, 2, "[1 2 3 4](1,1)", 12),
                (7, 2, "[1 2 3 4](1, 1)", None), (7, 2, "[1 2 3 4](1, 1, 1)", 14), (7, 2, "[1 2 3 4](1 1)", 11), (7, 2, "[1  2](1)", 3),
                (7, 2, "[1 2 ](1)", 5), (7, 2, "[ 1 2](1)", 1), (7, 2, "[7 2](1)", 1), (7, 2, "[1 02](1)", 4), (7, 2, "[1 7](1)", 3), (11, 2, "[1 10](1)", None),
                (11, 2, "[1 11](1)", 4), (7, 2, "[1 2] (1)", 5), (7, 2, "[1 2]((1 + 1))", 6),
                (7, 2, "[1 2]([1]())", 6), (7, 2, "[x0 1](1)", 1), (7, 2, "[1,2](1)", 2), (7, 0, "[1 2](x0)", 6), (7, 2, "[1 2](x0,)", 8)):
            self.assertEqual(first_bad(p, many, text), at, text)
            self.assertEqual(self.reads(p, many, text), at)

    def test_tables_of_1024_numbers_and_more(self):
        numbers = " ".join(["1"] * 1024)
        places = ", ".join(["0"] * 10)
        self.assertIsNone(self.reads(5, 0, f"[{numbers}]({places})"))
        self.assertEqual(self.reads(5, 0, f"[{numbers} 1]({places})"), 1 + len(numbers))
        self.assertEqual(self.reads(5, 0, f"[{numbers[:-2]}]({places})"), len(numbers) - 1)
        self.assertEqual(self.reads(5, 0, f"[{numbers}]({places}, 0)"), 1 + len(numbers) + 2 + len(places))

    def test_long_figures(self):
        for text, at in (("1" * 400, 10), ("x" + "1" * 400, 3), ("0" * 400, 1), ("[" + "9" * 19000, 10)):
            self.fails(BadRuleText, {"at": at}, rule_of, BIG, 2 if text[0] != "x" else 12, text)

    def test_wrong_inputs(self):
        for wrong in wrong_primes():
            self.fails(BadPrime, {}, rule_of, wrong, 2, TEXT)
            self.fails(BadPrime, {}, rule_text, wrong, 2, RULE)
        for wrong in wrong_many(24):
            self.fails(BadMany, {}, rule_of, 7, wrong, TEXT)
            self.fails(BadMany, {}, rule_text, 7, wrong, NUMBER)
        for wrong in wrong_texts():
            self.fails(NotText, {}, rule_of, 7, 2, wrong)
        for many in (0, 2, 24):
            for wrong in wrong_rules(7, many):
                self.fails(BadRule, {}, rule_text, 7, many, wrong)

    def test_shared_parts_are_written_each_time(self):
        rule = shared_rule(9)
        text = self.tells(plain_text(rule), rule_text, 7, 0, rule)
        self.assertEqual(exact(rule_of(7, 0, text)), exact(rule))


BAD_P = (None, True, "7", 9, 3, [7], HUGE)
BAD_MANY = (None, True, -1, 25, "2", (2,), [2], HUGE)
BAD_RULE = (None, (), ("number", 7), ("name", 2), ["number", 1], ("name", True), ("table", (1, 2), ()), 3)
BAD_TEXT = (None, True, 1, b"x0", ("x0",), ["x0"], {"x0": 1}, ())
CALLS = (
    (rule_text, (7, 2, RULE), ((BAD_P, "BadPrime"), (BAD_MANY, "BadMany"), (BAD_RULE, "BadRule"))),
    (rule_of, (7, 2, TEXT), ((BAD_P, "BadPrime"), (BAD_MANY, "BadMany"), (BAD_TEXT, "NotText"))),
)


class OrderTest(PointCase):
    def test_several_wrong_arguments(self):
        self.first_errors(CALLS)

    def test_nothing_is_left_behind(self):
        self.nothing_left_behind(CALLS)
        self.same_backward([(function, right) for function, right, _ in CALLS])


if __name__ == "__main__":
    unittest.main()
