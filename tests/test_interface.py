"""The interface: each function stands in the file under which the document lists it, with its arguments."""

import doctest
import importlib
import re
import unittest
from pathlib import Path

ARGUMENTS = {
    "numbers": {"is_prime": "value", "inverse": "p number", "power": "p number times"},
    "lines": {
        "is_line": "p value", "at": "p line place", "plus": "p one other", "minus": "p one other",
        "times": "p one other", "scaled": "p line number", "divided": "p one other", "through": "p points",
        "with_noughts": "p places", "led": "p line low step", "noughts": "p line",
    },
    "tables": {
        "is_table": "p value", "row_of": "names index", "index_of": "row", "spread": "p table point",
        "alike": "p one other", "whole": "p table", "behind": "p one other", "weights": "p point",
        "held": "p table number", "spread_noughts": "p table",
    },
    "rules": {
        "is_rule": "p many value", "value": "p many rule point", "sum_of": "p many rule", "told_degrees": "many rule",
        "put": "p many rule name number", "row_values": "p many rule",
    },
    "sums": {
        "is_sum": "value", "is_so": "claimed", "plain_line": "claimed draws", "judged": "claimed lines draws",
        "claims": "claimed lines draws", "loss": "claimed", "best_line": "p plain claim degree", "work": "claimed",
    },
    "answerers": {
        "is_answerer": "claimed value", "lines_of": "claimed answerer draws", "share_of": "claimed answerer",
        "chances": "claimed answerer",
    },
    "talks": {"write_talk": "p lines draws", "read_talk": "p text", "heard": "claimed text"},
    "forms": {
        "form_of": "names text", "form_text": "names form", "solutions": "many form", "form_rule": "p form",
        "count_sum": "p many form claim",
    },
    "webs": {
        "ties_table": "web", "walks_sum": "p web length claim", "triangles_sum": "p web claim", "walks": "web length",
        "triangles": "web",
    },
    "products": {
        "product": "p one other sizes", "entry_sum": "p one other sizes point claim",
        "product_judged": "p one other sizes claimed draws lines", "product_loss": "p sizes",
    },
    "marks": {
        "is_marked": "value", "worth": "marked", "rounds_of": "marked", "marked_line": "marked draws",
        "marked_judged": "marked lines draws", "marked_loss": "marked",
    },
    "programs": {
        "program_of": "text", "program_text": "program", "layers_of": "p program inputs", "wires": "program layer sign",
        "layer_sum": "p program layer point below claim",
    },
    "layers": {
        "between": "p one other place", "along": "p table one other", "program_draws": "program",
        "program_rounds": "program", "program_lines": "p program inputs draws",
        "program_judged": "p program inputs outputs lines draws", "program_loss": "p program",
    },
    "joins": {
        "joined": "p sums draws", "joined_loss": "p sums", "nought_sum": "p many rule point", "nought_loss": "p many rule",
    },
    "bags": {
        "is_same_bag": "one other", "packed": "p triple w", "bag_product": "p bag z w", "bags_fooled": "p one other",
    },
    "memories": {
        "is_true_log": "first deeds last", "put_bag": "first deeds", "taken_bag": "deeds last", "late": "deeds",
        "log_judged": "p first deeds last z w", "log_loss": "p first deeds", "mended_log": "first deeds",
    },
    "machines": {
        "machine_of": "text", "machine_text": "machine", "stand_after": "p machine standing",
        "run_of": "p machine first names",
    },
    "seals": {
        "sealed_run": "p machine first names", "ask": "p sealed column point", "row_rules": "p machine",
    },
    "sheets": {
        "sheet_of": "text", "sheet_text": "sheet", "led_claim": "sheet name", "claim_loss": "sheet name",
        "is_claim_so": "sheet name",
    },
    "sayings": {
        "saying_of": "given text", "saying_text": "given saying", "saying_holds": "given saying values",
        "saying_rule": "p given saying", "saying_sum": "p given saying claim",
        "saying_marked": "p given marks saying claim",
    },
    "ruletexts": {"rule_text": "p many rule", "rule_of": "p many text"},
    "cases": {
        "is_case": "value", "case_draws": "case", "case_rounds": "case", "case_loss": "case", "case_lines": "case draws",
        "case_judged": "case lines draws", "case_text": "case lines draws", "read_case": "text",
    },
    "runs": {
        "run_draws": "names", "run_rounds": "names", "run_lines": "p machine sealed draws",
        "run_judged": "p machine first result sealed lines draws", "run_loss": "p names",
    },
}


DESK = {
    "state": "name", "hear": "name line draw", "answer": "name draw", "loss": "", "asked": "", "undo": "", "talk": "name",
    "open_names": "",
}


class InterfaceTest(unittest.TestCase):
    def test_the_desk_and_its_methods(self):
        desks = importlib.import_module("pointsenough.desks")
        self.assertEqual((desks.Desk.__module__, desks.Desk.__name__), ("pointsenough.desks", "Desk"))
        for name, arguments in [("__init__", "sheet"), *DESK.items()]:
            code = vars(desks.Desk)[name].__code__
            self.assertEqual(code.co_varnames[:code.co_argcount], ("self", *arguments.split()), name)

    def test_columns(self):
        self.assertEqual(len(importlib.import_module("pointsenough.seals").COLUMNS), 16)

    def test_examples_of_the_document(self):
        document = Path(__file__).resolve().parent.parent.parent / "shared" / "DOC.md"
        if not document.is_file():
            self.skipTest("the document isn't here")
        interface = document.read_text(encoding="utf-8").partition("# The interface")[2]
        blocks = re.findall("```\n(.*?)```", interface, re.S)
        self.assertGreater(len(blocks), 20)
        for block in blocks:
            test = doctest.DocTestParser().get_doctest(block, {}, "DOC.md", None, None)
            told = []
            doctest.DocTestRunner(verbose=False).run(test, out=told.append)
            self.assertEqual("".join(told), "")

    def test_functions_and_their_arguments(self):
        for file, functions in ARGUMENTS.items():
            module = importlib.import_module("pointsenough." + file)
            for name, arguments in functions.items():
                function = getattr(module, name)
                self.assertEqual(function.__module__, module.__name__, name)
                code = function.__code__
                self.assertEqual(code.co_varnames[:code.co_argcount], tuple(arguments.split()), name)


if __name__ == "__main__":
    unittest.main()
