"""Points [1], [38] and [39]: sheets, and what their claims are led to."""

import unittest
from fractions import Fraction

from pointsenough.errors import BadSheet, NoClaim, NoSheet, NotText
from pointsenough.forms import count_sum, form_of, form_rule
from pointsenough.marks import marked_loss
from pointsenough.sheets import claim_loss, is_claim_so, led_claim, sheet_of, sheet_text
from pointsenough.sums import loss
from pointsenough.webs import triangles_sum, walks_sum
from tests.sheets import SHEET, WRONGED, head_of, plain_sheet_text, sheet_for, statements, true_number
from tests.support import (
    BIG, HUGE, YES, PointCase, any_values, bad_tuples, nots, numbers_for, shared_form, wrong_forms, wrong_names, wrong_numbers,
    wrong_primes, wrong_tables, wrong_texts,
)
from tests.test_webs import wrong_webs

KEYS = ("yes", "no", "not", "and", "or", "xor", "prime", "names", "form", "web", "table", "marks", "claim", "count", "walks",
        "value", "holds", "all", "some", "by", "at", "is")
EMPTY = {"prime": 11, "names": (), "forms": {}, "webs": {}, "tables": {}, "marks": {}, "claims": {}}
HEAD = "prime 11\nnames a b\n"
READ = {
    "prime": 101, "names": ("a", "b", "c"),
    "forms": {"f": ("or", ("name", 0), ("and", ("name", 1), ("not", ("name", 2)))), "g": ("xor", ("name", 0), ("name", 1))},
    "webs": {"w": (4, ((0, 1), (0, 2), (1, 2), (2, 3))), "one": (1, ())}, "tables": {"t": (1, 2, 3, 4), "u": (7,)},
    "marks": {"m": ("all", "some", "some")},
    "claims": {
        "ca": ("count", "f", 5), "cb": ("triangles", "w", 1), "cc": ("walks", "w", 2, 8), "cd": ("value", "t", (5, 6), 17),
        "ce": ("holds", "g", "m", 1), "cf": ("walks", "one", 3, 0), "cg": ("value", "u", (), 7),
    },
}


def with_part(sheet, part, told):
    return {**sheet, part: told}


def with_item(sheet, part, name, told):
    return {**sheet, part: {**sheet[part], name: told}}


class ExamplesTest(PointCase):
    def test_examples(self):
        sheet = sheet_of("prime 11\nnames a b\nform f : a or b\nclaim c : count f is 3\n")
        told = [sheet["names"], sheet["forms"], sheet["claims"], claim_loss(sheet, "c"), is_claim_so(sheet, "c")]
        self.assertEqual(told, [("a", "b"), {"f": ("or", ("name", 0), ("name", 1))}, {"c": ("count", "f", 3)}, (21, 121), True])


class SheetOfTest(PointCase):
    def refused(self, at, text):
        self.fails(BadSheet, {"at": at}, sheet_of, text)

    def test_by_hand(self):
        self.assertEqual(sheet_of(SHEET), READ)
        self.assertEqual(list(sheet_of(SHEET)), ["prime", "names", "forms", "webs", "tables", "marks", "claims"])
        self.tells(EMPTY, sheet_of, "prime 11\n")
        self.tells(with_part(EMPTY, "names", ("a",)), sheet_of, "prime 11\nnames a\n")

    def test_drawn_ones_in_any_order(self):
        for seed in range(54):
            sheet = sheet_for(seed)
            self.assertEqual(sheet_of(plain_sheet_text(sheet)), sheet)
            lines = statements(sheet)
            marks = numbers_for(1000, seed, len(lines))
            mixed = sorted(range(len(lines)), key=lambda at: (lines[at][0] == "claims", marks[at]))
            text = head_of(sheet) + "".join(lines[at][1] + "\n" for at in mixed)
            self.assertEqual(sheet_of(text), sheet)

    def test_claims_between_other_statements(self):
        told = sheet_of(HEAD + "form f : a\nclaim c : count f is 2\nform g : b\ntable t : 1\nclaim d : count g is 2\nmarks m : all a all b\n")
        self.assertEqual(told["claims"], {"c": ("count", "f", 2), "d": ("count", "g", 2)})

    def test_the_first_line(self):
        for text, at in (("", 0), ("\n", 0), ("prime 11", 0), ("names a\n", 0), ("form f : yes\n", 0), ("prime\n", 0), ("prime 9\n", 0),
                         ("prime 3\n", 0), ("prime 2147483648\n", 0), ("prime 11 \n", 0), ("prime 011\n", 0), ("prime +11\n", 0), (" prime 11\n", 0),
                         ("prime  11\n", 0), ("prime 11 13\n", 0), ("Prime 11\n", 0), ("prime\t11\n", 0), ("prime x\n", 0), ("prime " + "9" * 400 + "\n", 0),
                         ("prime 11\nprime 11\n", 1), ("prime 11\nnames a\nprime 11\n", 2), ("prime 11\n\n", 1), ("prime 11\n ", 1)):
            self.refused(at, text)
        for p in (5, 7, BIG):
            self.tells(with_part(EMPTY, "prime", p), sheet_of, f"prime {p}\n")

    def test_names(self):
        eight = "a b c d e f g h"
        self.tells(with_part(EMPTY, "names", tuple(eight.split())), sheet_of, f"prime 11\nnames {eight}\n")
        for names in ("", " ", " a a", " a b a", " " + eight + " i", " A", " a1", " a b ", "  a", " a  b", " abcdefghi", " a,b", " a\t", " \u00e4"):
            self.refused(1, f"prime 11\nnames{names}\n")
        for key in KEYS:
            self.refused(1, f"prime 11\nnames {key}\n")
            self.refused(1, f"prime 11\nnames a {key}\n")
        for word in ("yess", "primes", "name", "forms", "webs", "tables", "mark", "claims", "abcdefgh"):
            self.tells(with_part(EMPTY, "names", (word,)), sheet_of, f"prime 11\nnames {word}\n")
        self.refused(2, "prime 11\nnames a\nnames b\n")
        self.refused(2, "prime 11\nform f : yes\nnames a\n")
        self.refused(2, "prime 11\ntable t : 1\nnames a b\n")

    def test_keys_and_names_that_are_used_are_no_names(self):
        for key in KEYS + ("a", "b", "F", "f1", "", "abcdefghi", "triangles"):
            for line in (f"form {key} : yes", f"web {key} 2 : 0-1", f"table {key} : 1", f"marks {key} : all a all b", f"claim {key} : count f is 2"):
                self.refused(3, HEAD + f"form f : a\n{line}\n")
        sorts = ("form x : yes", "web x 2 : 0-1", "table x : 1 2", "marks x : all a some b", "claim x : value t at is 1")
        for one in sorts:
            sheet_of(HEAD + "table t : 1\n" + one + "\n")
            for other in sorts:
                self.refused(4, HEAD + f"table t : 1\n{one}\n{other}\n")

    def test_names_ahead_of_their_line(self):
        self.refused(2, HEAD + "claim c : count f is 2\nform f : a\n")
        self.refused(2, HEAD + "claim c : triangles w is 2\nweb w 2 : 0-1\n")
        self.refused(3, HEAD + "form f : a\nclaim c : holds f by m is 2\nmarks m : all a all b\n")
        self.refused(2, HEAD + "claim c : value c at is 2\n")

    def test_names_as_something_else(self):
        head = HEAD + "form f : a\nweb w 2 : 0-1\ntable t : 1 2\nmarks m : all a some b\nclaim c : count f is 2\n"
        for claim in ("count w", "count t", "count m", "count c", "count a", "count x", "triangles f", "triangles t", "walks f 2", "walks m 2",
                      "value f at 1", "value w at 1", "value m at 1", "holds w by m", "holds t by m", "holds f by f", "holds f by t", "holds m by m",
                      "holds f by c", "holds f by a", "holds a by m"):
            self.refused(7, head + f"claim d : {claim} is 2\n")

    def test_forms(self):
        for text in ("a", "yes", "a or b", "not(a and b)", "  a  xor  b ", "( a )", "(((b)))", "a and" + " " * 300 + "b", "not not a"):
            told = sheet_of(HEAD + f"form f : {text}\n")
            self.assertEqual(told["forms"], {"f": form_of(("a", "b"), text)})
        for text in ("", " ", "c", "f", "a or", "(a", "a b", "a)", "a\tor b", "A", "a or prime", "form", "a" + " " * 400, "(" * 101 + "a" + ")" * 101):
            self.refused(2, HEAD + f"form f : {text}\n")
        self.tells(with_item(with_part(EMPTY, "names", ("a", "b")), "forms", "f", ("name", 0)), sheet_of, HEAD + "form f : a" + " " * 399 + "\n")
        for line in ("form", "form f", "form f :", "form f: a", "form f a", "form f :a", "form f  : a", "form  f : a", " form f : a", "form f = a",
                     "form : a", "form f g : a", "Form f : a", "forms f : a"):
            self.refused(2, HEAD + line + "\n")
        self.refused(1, "prime 11\nform f : a\n")
        self.assertEqual(sheet_of("prime 11\nform f : yes or no\n")["forms"], {"f": ("or", ("yes",), ("no",))})

    def test_webs(self):
        for line, web in (("1 :", (1, ())), ("2 :", (2, ())), ("2 : 0-1", (2, ((0, 1),))), ("8 : 0-7 6-7", (8, ((0, 7), (6, 7)))),
                          ("4 : 0-1 0-2 0-3 1-2 1-3 2-3", (4, ((0, 1), (0, 2), (0, 3), (1, 2), (1, 3), (2, 3))))):
            self.assertEqual(sheet_of(HEAD + f"web w {line}\n")["webs"], {"w": web})
        for line in ("", " ", " :", " 0 :", " 3 :", " 5 :", " 16 :", " 04 :", " x :", " -1 :", " 4", " 4:", " 4 0-1", " 4 : ", " 4 :  0-1", " 4 : 0-1 ",
                     " 4 : 0-1  0-2", " 4 : 1-0", " 4 : 1-1", " 4 : 0-4", " 4 : 0-2 0-1", " 4 : 0-1 0-1", " 4 : 0", " 4 : 0-1-2", " 4 : 0-", " 4 : -1",
                     " 4 : 0 - 1", " 4 : 00-1", " 4 : 0-01", " 4 : 0,1", " 4 : a-b", " 4 : 0--1", " 4 : 0-1 x", " 1 : 0-0", " 1 : 0-1", " : 4 0-1",
                     " 4 : 0-" + "9" * 400, "4 :", " 4 : 0-\u0661"):
            self.refused(2, HEAD + f"web w{line}\n")

    def test_tables(self):
        for many in (1, 2, 4, 8, 16, 512, 1024):
            numbers = numbers_for(11, many, many)
            line = "".join(f" {number}" for number in numbers)
            self.assertEqual(sheet_of(HEAD + f"table t :{line}\n")["tables"], {"t": numbers})
        for line in ("", " :", " : ", " 1", " : 11", " : 1 11", " : 1 2 3", " : -1", " : 01", " : 1  2", " : 1 2 ", " : x", " : 1,2", ": 1", " :1",
                     " : " + " ".join(["1"] * 2048), " : " + " ".join(["1"] * 1023), " : " + "9" * 400, " : 1 \u0661", " : 1_0 2", " : (1)"):
            self.refused(2, HEAD + f"table t{line}\n")

    def test_marks(self):
        for line, marks in (("all a all b", ("all", "all")), ("some a all b", ("some", "all")), ("all a some b", ("all", "some"))):
            self.assertEqual(sheet_of(HEAD + f"marks m : {line}\n")["marks"], {"m": marks})
        for line in ("", " ", " :", " : ", " : all", " : all a", " : all a all", " : all b all a", " : all a all a", " : all a all c", " : all a some b all c",
                     " : all a  some b", " : all a some b ", " : a all b some", " : any a all b", " : ALL a all b", " : all a all b all", " all a all b",
                     " : all all a b", " : all A all b", " : all a, all b"):
            self.refused(2, HEAD + f"marks m{line}\n")
        self.assertEqual(sheet_of("prime 11\nmarks m :\n")["marks"], {"m": ()})
        self.refused(1, "prime 11\nmarks m : all a\n")
        self.refused(1, "prime 11\nmarks m : \n")
        six = "prime 11\nnames a b c d e f\nmarks m : all a all b all c all d all e all f\n"
        self.assertEqual(sheet_of(six)["marks"], {"m": ("all",) * 6})
        self.refused(2, "prime 11\nnames a b c d e f g\nmarks m : all a all b all c all d all e all f all g\n")
        self.refused(2, "prime 11\nnames a b c d e f g\nmarks m : all a all b all c all d all e all f\n")

    def test_claims_that_cannot_stand(self):
        head = HEAD + "form f : a\nweb w 2 : 0-1\ntable t : 1 2\nmarks m : all a some b\n"
        for line in ("", " ", " c", " c :", " c : ", " c : count", " c : count f", " c : count f is", " c : count f is ", " c : count f 2",
                     " c : count f is 11", " c : count f is -1", " c : count f is 02", " c : count f is x", " c : count f is 2 ", " c : count f is 2 3",
                     " c : count  f is 2", " c : count f  is 2", " c :  count f is 2", " c count f is 2", " c: count f is 2", " c : count f == 2",
                     " c : Count f is 2", " c : triangles w 3 is 2", " c : triangles is 2", " c : triangles w is 11", " c : walks w is 2",
                     " c : walks w 1 is 2", " c : walks w 4 is 2", " c : walks w 0 is 2", " c : walks w 02 is 2", " c : walks w x is 2", " c : walks w 2 3 is 2",
                     " c : walks 2 w is 2", " c : value t is 2", " c : value t at is 2", " c : value t at 1 2 is 2", " c : value t at 11 is 2",
                     " c : value t at x is 2", " c : value t 1 is 2", " c : value t at 01 is 2", " c : value t at 1 is 11", " c : value t at 1  is 2",
                     " c : holds f is 1", " c : holds f by is 1", " c : holds f m is 1", " c : holds f by m by m is 1", " c : holds f by m is 11",
                     " c : holds by m is 1", " c : is 2", " c : is", " c : f is 2", " c : some f is 2", " c : value at t 1 is 2", " c : holds f by m 1",
                     " : count f is 2", "c : count f is 2", " c : count f is " + "9" * 400, " c : value t by 1 is 2"):
            self.refused(6, head + f"claim{line}\n")
        for line, claim in (("count f is 0", ("count", "f", 0)), ("count f is 10", ("count", "f", 10)), ("triangles w is 10", ("triangles", "w", 10)),
                            ("walks w 2 is 0", ("walks", "w", 2, 0)), ("walks w 3 is 1", ("walks", "w", 3, 1)), ("value t at 10 is 3", ("value", "t", (10,), 3)),
                            ("holds f by m is 5", ("holds", "f", "m", 5))):
            self.assertEqual(sheet_of(head + f"claim c : {line}\n")["claims"], {"c": claim})

    def test_claims_that_are_led_to_nothing(self):
        for many in (30, 31):
            head = HEAD + "form f : " + " and ".join(["a"] * many) + "\nmarks m : all a some b\n"
            for claim in ("count f is 1", "holds f by m is 1"):
                if many == 30:
                    self.assertEqual(len(sheet_of(head + f"claim c : {claim}\n")["claims"]), 1)
                else:
                    self.refused(4, head + f"claim c : {claim}\n")
        # Texts are too short for rules that get too deep, dicts aren't.
        deep = YES
        for many in range(1, 100):
            deep = ("xor", deep, YES)
            sheet = with_item(with_item(EMPTY, "forms", "f", deep), "marks", "m", ())
            for claim in (("count", "f", 1), ("holds", "f", "m", 1)):
                claimed = with_item(sheet, "claims", "c", claim)
                if many < 80:
                    self.assertEqual(is_claim_so(claimed, "c"), many % 2 == 0)
                else:
                    self.fails(NoSheet, {}, sheet_text, claimed)

    def test_lines_that_cannot_stand_anywhere(self):
        lines = SHEET.splitlines()
        for at in range(len(lines) + 1):
            for bad in ("", " ", "what", "prime 7", "names d", "form", "claim c", lines[at - 1], "form q : q", "x y : z"):
                told = "".join(line + "\n" for line in lines[:at] + [bad] + lines[at:])
                # At their own places a prime and names stand, and only what follows cannot.
                if (at, bad) not in ((0, "prime 7"), (1, "names d")):
                    self.refused(at, told)
                elif at == 1:
                    self.refused(2, told)

    def test_lines_that_are_not_ended(self):
        lines = SHEET.splitlines()
        for at in range(len(lines)):
            ahead = "".join(line + "\n" for line in lines[:at])
            for rest in (lines[at], " ", "what", "claim"):
                self.refused(at, ahead + rest)

    def test_dicts_are_new_each_time(self):
        told = sheet_of(SHEET)
        for part in ("forms", "webs", "tables", "marks", "claims"):
            told[part].clear()
        told["prime"] = 0
        self.assertEqual(sheet_of(SHEET), READ)

    def test_wrong_inputs(self):
        for wrong in wrong_texts():
            self.fails(NotText, {}, sheet_of, wrong)


def wrong_sheets():
    """Dicts bent in each key, and what is no dict."""
    right = sheet_of(SHEET)
    told = any_values() + bad_tuples() + [0, HUGE, SHEET, tuple(right.items()), list(right.items()), {}, {"prime": 11}]
    told += [{key: right[key] for key in right if key != part} for part in right]
    told += [{**right, "more": 1}, {**right, 0: 1}, {("Prime" if key == "prime" else key): right[key] for key in right}]
    told += [with_part(right, "prime", p) for p in wrong_primes() + [5, 7]]
    told += [with_part({**right, "claims": {}, "forms": {}, "marks": {}}, "names", names) for names in wrong_names()]
    told += [with_part({**EMPTY}, "names", (key,)) for key in KEYS] + [with_part({**EMPTY}, "names", tuple("abcdefghi"))]
    told += [with_part(right, "names", names) for names in ((), ("a", "b"), ("a", "b", "c", "d"), ["a", "b", "c"], ("a", "b", "f"), ("a", "t", "c"), ("ca", "b", "c"))]
    parts = ("forms", "webs", "tables", "marks", "claims")
    for part in parts:
        told += [with_part(right, part, wrong) for wrong in any_values() + bad_tuples() + [0, (), [], "", "f"] if wrong != {}]
        item = next(iter(right[part].values()))
        for name in any_values() + ["F", "a", "b", "f1", "", "abcdefghi", 3] + list(KEYS):
            if name != "x" and not isinstance(name, (list, dict)):
                told.append({**right, part: {**right[part], name: item}})
        for other in parts:
            if other != part:
                told.append(with_item(right, part, next(iter(right[other])), item))
    told += [with_item(right, "forms", "h", form) for form in wrong_forms(3)] + [with_item(right, "forms", "h", ("name", 3))]
    told += [with_item(right, "forms", "h", nots(200, YES)), with_item(right, "forms", "h", shared_form(8))]
    told += [with_item(right, "webs", "h", web) for web in wrong_webs()]
    told += [with_item(right, "tables", "h", table) for table in wrong_tables(101)]
    marks = any_values() + bad_tuples() + [0, (), ("all",), ("all", "some"), ("all",) * 4, ["all"] * 3, ("all", "any", "some"), "all", ("ALL",) * 3]
    told += [with_item(right, "marks", "h", wrong) for wrong in marks + [("all", "some", None), ("all", "some", True), (("all",),) * 3]]
    return told + [with_item(right, "claims", "h", claim) for claim in wrong_claims()]


def wrong_claims():
    told = any_values() + bad_tuples() + [0, (), "count f is 3", ("count",), ("count", "f"), ("count", "f", 3, 3), ["count", "f", 3], ("Count", "f", 3)]
    told += [("", "f", 3), (None, "f", 3), (["count"], "f", 3), ("sum", "f", 3), ("count", "w", 3), ("count", "x", 3), ("count", "ca", 3), ("count", "m", 3)]
    told += [("triangles", "f", 1), ("triangles", "w"), ("triangles", "w", 3, 1), ("walks", "w", 1), ("walks", "f", 2, 1), ("walks", "w", 1, 1)]
    told += [("walks", "w", 4, 1), ("walks", "w", True, 1), ("walks", "w", "2", 1), ("walks", "w", None, 1), ("walks", "w", (2,), 1), ("walks", "w", 2, 1, 1)]
    told += [("value", "t", 1), ("value", "t", (5,), 1), ("value", "t", (5, 6, 7), 1), ("value", "t", [5, 6], 1), ("value", "t", (5, 101), 1)]
    told += [("value", "t", (5, True), 1), ("value", "t", None, 1), ("value", "u", (5,), 1), ("value", "f", (5, 6), 1), ("value", "t", 5, 6, 1)]
    told += [("holds", "f", 1), ("holds", "f", "f", 1), ("holds", "f", "x", 1), ("holds", "w", "m", 1), ("holds", "f", None, 1), ("holds", "f", ["m"], 1)]
    told += [("holds", "f", ("all", "some", "some"), 1), ("holds", "f", "m", 1, 1)]
    for name in any_values() + [0, ("f",), ["f"], "F", ""]:
        if name != "x":
            told += [("count", name, 3), ("triangles", name, 1), ("walks", name, 2, 1), ("value", name, (), 1), ("holds", name, "m", 1), ("holds", "f", name, 1)]
    for number in wrong_numbers(101):
        told += [("count", "f", number), ("triangles", "w", number), ("walks", "w", 2, number), ("value", "u", (), number), ("holds", "f", "m", number)]
    return told


class SheetTextTest(PointCase):
    def test_drawn_ones(self):
        for seed in range(54):
            sheet = sheet_for(seed)
            text = self.tells(plain_sheet_text(sheet), sheet_text, sheet)
            self.assertEqual(sheet_of(text), sheet)

    def test_sorted(self):
        lines = SHEET.splitlines()
        mixed = lines[:2] + [lines[3], lines[8], lines[7], lines[5], lines[4], lines[6], lines[2]] + lines[:8:-1]
        told = sheet_text(sheet_of("".join(line + "\n" for line in mixed)))
        right = lines[:4] + [lines[5], lines[4]] + lines[6:]
        right[2] = "form f : a or b and not c"
        self.assertEqual(told.splitlines(), right)
        self.tells("prime 11\n", sheet_text, EMPTY)

    def test_in_whatever_order_the_keys_stand(self):
        sheet = {key: READ[key] for key in reversed(list(READ))}
        self.assertEqual(sheet_text(sheet), sheet_text(READ))
        backward = {key: dict(reversed(list(value.items()))) if isinstance(value, dict) else value for key, value in READ.items()}
        self.assertEqual(sheet_text(backward), sheet_text(READ))

    def test_wrong_inputs(self):
        for wrong in wrong_sheets():
            self.fails(NoSheet, {}, sheet_text, wrong)

    def test_forms_without_claims_may_be_large(self):
        form = nots(199, YES)
        sheet = with_item(EMPTY, "forms", "f", form)
        self.tells("prime 11\nform f : " + "not " * 199 + "yes\n", sheet_text, sheet)
        self.fails(NoSheet, {}, sheet_text, with_item(sheet, "forms", "g", nots(200, YES)))


class LedTest(PointCase):
    def test_by_hand(self):
        sheet = sheet_of(SHEET)
        forms, web = sheet["forms"], sheet["webs"]["w"]
        self.tells(("sum", count_sum(101, 3, forms["f"], 5)), led_claim, sheet, "ca")
        self.tells(("sum", triangles_sum(101, web, 1)), led_claim, sheet, "cb")
        self.tells(("sum", walks_sum(101, web, 2, 8)), led_claim, sheet, "cc")
        self.tells(("point", (1, 2, 3, 4), (5, 6), 17), led_claim, sheet, "cd")
        self.tells(("marked", (101, ("all", "some", "some"), form_rule(101, forms["g"]), 1)), led_claim, sheet, "ce")
        self.tells(("sum", walks_sum(101, (1, ()), 3, 0)), led_claim, sheet, "cf")
        self.tells(("point", (7,), (), 7), led_claim, sheet, "cg")

    def test_drawn_ones(self):
        for seed in range(54):
            sheet = sheet_for(seed)
            p, many = sheet["prime"], len(sheet["names"])
            for name, claim in sheet["claims"].items():
                word, thing, number = claim[0], claim[1], claim[-1]
                if word == "count":
                    led = ("sum", count_sum(p, many, sheet["forms"][thing], number))
                elif word == "triangles":
                    led = ("sum", triangles_sum(p, sheet["webs"][thing], number))
                elif word == "walks":
                    led = ("sum", walks_sum(p, sheet["webs"][thing], claim[2], number))
                elif word == "value":
                    led = ("point", sheet["tables"][thing], claim[2], number)
                else:
                    led = ("marked", (p, sheet["marks"][claim[2]], form_rule(p, sheet["forms"][thing]), number))
                self.assertEqual(led_claim(sheet, name), led)
                told = {"sum": loss, "marked": marked_loss}.get(led[0], lambda _: (0, 1))(led[1])
                self.assertEqual(claim_loss(sheet, name), told)
                self.assertEqual(is_claim_so(sheet, name), number == true_number(sheet, claim))

    def test_right_and_wrong_ones(self):
        right, wrong = sheet_of(SHEET), sheet_of(WRONGED)
        for name in right["claims"]:
            self.tells(True, is_claim_so, right, name)
            self.tells(False, is_claim_so, wrong, name)

    def test_losses(self):
        sheet = sheet_of(SHEET)
        for name, degrees in (("ca", (1, 1, 1)), ("cb", (2,) * 6), ("cc", (2,) * 4), ("cd", ()), ("cf", ()), ("cg", ())):
            kept = Fraction(1)
            for degree in degrees:
                kept *= 1 - Fraction(degree, 101)
            self.tells(((1 - kept).numerator, (1 - kept).denominator), claim_loss, sheet, name)

    def test_wrong_inputs(self):
        sheet = sheet_of(SHEET)
        for wrong in wrong_sheets():
            self.fails(NoSheet, {}, led_claim, wrong, "ca")
            self.fails(NoSheet, {}, claim_loss, wrong, "ca")
            self.tells(False, is_claim_so, wrong, "ca")
        for wrong in any_values() + bad_tuples() + [0, HUGE, "CA", "ca ", "f", "w", "t", "m", "a", "prime", ("ca",), ["ca"], {"ca": 1}]:
            self.fails(NoClaim, {}, led_claim, sheet, wrong)
            self.fails(NoClaim, {}, claim_loss, sheet, wrong)
            self.tells(False, is_claim_so, sheet, wrong)


RIGHT = sheet_of(SHEET)
BAD_SHEET = (None, (), {}, SHEET, [RIGHT], {**RIGHT, "prime": 9}, {**RIGHT, "names": ["a", "b", "c"]}, {**RIGHT, "more": {}}, 1)
BAD_NAME = (None, True, 0, "x", ("ca",), ["ca"], "f", {"ca": 1})
CALLS = (
    (sheet_of, (SHEET,), (([None, True, 1, b"prime 11\n", ("prime 11\n",), ["prime 11\n"], {}, ()], "NotText"),)),
    (sheet_text, (RIGHT,), ((BAD_SHEET, "NoSheet"),)),
    (led_claim, (RIGHT, "ca"), ((BAD_SHEET, "NoSheet"), (BAD_NAME, "NoClaim"))),
    (claim_loss, (RIGHT, "ca"), ((BAD_SHEET, "NoSheet"), (BAD_NAME, "NoClaim"))),
    (is_claim_so, (RIGHT, "ca"), ((BAD_SHEET, None), (BAD_NAME, None))),
)


class OrderTest(PointCase):
    def test_several_wrong_arguments(self):
        self.first_errors(CALLS)

    def test_nothing_is_left_behind(self):
        self.nothing_left_behind(CALLS)
        self.same_backward([(function, right) for function, right, _ in CALLS])


if __name__ == "__main__":
    unittest.main()
