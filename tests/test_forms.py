"""Points [1], [19] and [20]: forms, their texts, solutions and rules, and the sums that count."""

import re
import unittest

from pointsenough.errors import BadForm, BadMany, BadNames, BadNumber, BadPrime, BadSum, NoForm, NotText
from pointsenough.forms import count_sum, form_of, form_rule, form_text, solutions
from pointsenough.rules import is_rule, row_values, sum_of, told_degrees
from pointsenough.sums import is_so, is_sum
from tests.support import (
    BIG, HUGE, YES, PointCase, all_forms, any_values, bits_rows, exact, form_for, nots, numbers_for, plain_form,
    plain_rule, shared_form, wrong_forms, wrong_many, wrong_names, wrong_numbers, wrong_primes, wrong_texts,
)

PRIMES = (5, 7, 11, 10007, BIG)
ABC = ("a", "b", "c")
A, B, C, NO = ("name", 0), ("name", 1), ("name", 2), ("no",)
KEYS = ("yes", "no", "not", "and", "or", "xor")
TEN = ("a", "b", "c", "d", "e", "f", "g", "h", "i", "j")


class Refused(Exception):
    """A form cannot be read beyond the word at an index."""


class PlainReader:
    """Reads forms by going down from what binds least, as the document tells it, word for word."""

    def __init__(self, names, text):
        self.names, self.text = names, text
        self.words = [(found.group(), found.start()) for found in re.finditer("[a-z]+|[^ ]", text)]
        self.next, self.within = 0, 0

    def word(self):
        return self.words[self.next][0] if self.next < len(self.words) else None

    def refuse(self):
        raise Refused(self.words[self.next][1] if self.next < len(self.words) else len(self.text))

    def take(self):
        self.next += 1
        return self.words[self.next - 1][0]

    def whole(self):
        tree = self.joined(0)
        if self.next < len(self.words):
            self.refuse()
        return tree

    def joined(self, level):
        if level == 2:
            return self.single()
        tree = self.joined(level + 1)
        while self.word() in (("or", "xor"), ("and",))[level]:
            word = self.take()
            tree = (word, tree, self.joined(level + 1))
        return tree

    def single(self):
        word = self.word()
        if word == "not":
            self.take()
            return ("not", self.single())
        if word in ("yes", "no"):
            return (self.take(),)
        if word in self.names:
            return ("name", self.names.index(self.take()))
        if word == "(" and self.within < 100:
            self.take()
            self.within += 1
            tree = self.joined(0)
            if self.word() != ")":
                self.refuse()
            self.take()
            self.within -= 1
            return tree
        return self.refuse()


def read_plainly(names, text):
    """What a text reads as: a tree, or the index at which it is refused."""
    try:
        return PlainReader(names, text).whole()
    except Refused as refused:
        return refused.args[0]


def spread_out(names, form, seed):
    """A text of a tree with brackets and blanks that aren't needed here and there."""
    word = form[0]
    mark = numbers_for(1000, seed, 1)[0]
    if word == "name":
        text = names[form[1]]
    elif word in ("yes", "no"):
        text = word
    elif word == "not":
        text = ("not(" if mark % 2 else "not  ( ") + spread_out(names, form[1], seed * 2 + 1) + ")"
    else:
        join = ("){}(", ") {}  (", " ) {}( ")[mark % 3].format(word)
        text = "(" + spread_out(names, form[1], seed * 2 + 1) + join + spread_out(names, form[2], seed * 2 + 2) + ")"
    return "  " * (mark % 4 // 3) + ("( " + text + " )" if mark % 5 == 0 else text) + " " * (mark % 7 // 6)


class ExamplesTest(PointCase):
    def test_reading(self):
        tree = ("and", A, ("or", B, ("not", C)))
        self.tells(tree, form_of, ABC, "a and (b or not c)")
        self.tells("a and (b or not c)", form_text, ABC, tree)
        self.tells([(1, 0, 0), (1, 1, 0), (1, 1, 1)], solutions, 3, tree)

    def test_rules(self):
        no_a = ("minus", ("number", 1), ("name", 0))
        no_no = ("minus", ("number", 1), ("number", 0))
        self.tells(("minus", ("number", 1), ("times", no_a, no_no)), form_rule, 7, ("or", A, NO))
        self.tells((11, 1, ("name", 0), 1), count_sum, 11, 1, A, 1)
        self.assertEqual(form_rule(7, ("xor", A, B))[:2], ("times", ("number", 4)))


class FormOfTest(PointCase):
    def reads(self, tree, text, names=ABC):
        self.assertEqual(read_plainly(names, text), tree, text)
        self.tells(tree, form_of, names, text)

    def refuses(self, at, text, names=ABC):
        self.assertEqual(exact(read_plainly(names, text)), exact(at), text)
        self.fails(BadForm, {"at": at}, form_of, names, text)

    def test_what_binds_most(self):
        self.reads(("or", A, ("and", B, C)), "a or b and c")
        self.reads(("or", ("and", A, B), C), "a and b or c")
        self.reads(("xor", A, ("and", B, C)), "a xor b and c")
        self.reads(("xor", ("and", A, B), C), "a and b xor c")
        self.reads(("and", ("not", A), B), "not a and b")
        self.reads(("or", ("not", A), B), "not a or b")
        self.reads(("and", A, ("not", B)), "a and not b")
        self.reads(("or", ("and", A, ("not", B)), C), "a and not b or c")
        self.reads(("not", ("and", A, B)), "not (a and b)")
        self.reads(("and", ("or", A, B), C), "(a or b) and c")

    def test_like_ones_from_the_left(self):
        self.reads(("and", ("and", A, B), C), "a and b and c")
        self.reads(("or", ("or", A, B), C), "a or b or c")
        self.reads(("xor", ("xor", A, B), C), "a xor b xor c")
        self.reads(("xor", ("or", A, B), C), "a or b xor c")
        self.reads(("or", ("xor", A, B), C), "a xor b or c")
        self.reads(("or", A, ("xor", B, C)), "a or (b xor c)")
        self.reads(("or", ("xor", ("or", A, ("and", B, C)), A), YES), "a or b and c xor a or yes")

    def test_not_not(self):
        self.reads(("not", ("not", A)), "not not a")
        self.reads(nots(5, A), "not not not not not a")
        self.reads(("and", ("not", ("not", A)), ("not", B)), "not not a and not b")
        self.reads(("not", ("not", ("or", A, B))), "not not(a or b)")

    def test_leaves(self):
        for names in ((), ("a",), ABC):
            self.reads(YES, "yes", names)
            self.reads(NO, "no", names)
        for at, name in enumerate(ABC):
            self.reads(("name", at), name)
        self.refuses(0, "a", ())
        self.refuses(0, "a", ("b",))

    def test_blanks(self):
        for text in (" a and b", "a and b ", "   a   and   b   ", "(a)and(b)", "( a ) and ( b )", "((a)and b)", "a and(b)"):
            self.reads(("and", A, B), text)
        self.reads(("not", A), "not(a)")
        self.reads(("not", A), " not   ( a ) ")
        self.reads(("or", ("not", A), B), "not(a)or(b)")

    def test_words_that_run_together(self):
        self.refuses(0, "nota")
        self.refuses(0, "aand b")
        self.refuses(2, "a andb")
        self.refuses(0, "aandb")
        self.refuses(0, "yesno")
        self.refuses(3, "(a)andb")
        self.reads(("name", 0), "nota", ("nota", "a"))
        self.reads(("name", 0), "yesno", ("yesno",))
        self.reads(("and", ("name", 1), ("name", 0)), "notab and nota", ("nota", "notab"))

    def test_names(self):
        longest = ("a", "abcdefgh", "zzzzzzzz", "yesyes", "nor", "xo", "note", "form", "count", "all")
        for at, name in enumerate(longest):
            self.reads(("name", at), name, longest)
        self.refuses(0, "abcdefghi", longest)
        self.refuses(0, "abcdefg", longest)
        self.refuses(6, "a and zzzzzzzzz", longest)
        for at, name in enumerate(TEN):
            self.reads(("name", at), name, TEN)

    def test_first_word_that_cannot_stand(self):
        for at, text in (
                (2, "a b"), (2, "a not b"), (2, "a yes"), (2, "a (b)"), (0, "and a"), (0, ")"), (1, "a)"), (6, "a and and b"),
                (3, "(a b)"), (1, "()"), (3, "not)"), (4, "not and a"), (9, "a and (b))"), (6, "a and )"), (3, "(a)(b)"),
                (0, "d"), (5, "a or d or"), (6, "a and d e"), (0, "or"), (0, "xor a"), (11, "a and (b or)")):
            self.refuses(at, text)

    def test_texts_that_end_too_early(self):
        for text in ("", " ", "     ", "not", "not ", "a and", "a and ", "(", "((", "(a", "(a ", "(a and b", "a or not", "not ("):
            self.refuses(len(text), text)
        self.refuses(399, " " * 399)
        self.refuses(400, " " * 400)

    def test_signs_that_are_none(self):
        for sign in ("A", "1", "_", "\n", "\t", "[", "{", ".", ",", "+", "&", "|", "~", "!", "\u00e4", "\u00a0", "\x00", "\r"):
            self.refuses(0, sign)
            self.refuses(1, "a" + sign)
            self.refuses(2, "a " + sign + " b")
            self.refuses(6, "a and " + sign)
            self.refuses(1, "(" + sign + "a)")
        self.refuses(1, "aB and b")
        self.refuses(5, "a and\tb")
        self.refuses(1, "a\n")
        self.refuses(0, "\na")

    def test_brackets_within_others(self):
        self.reads(A, "(" * 100 + "a" + ")" * 100)
        self.reads(A, "(" * 99 + "a" + ")" * 99)
        self.refuses(100, "(" * 101 + "a" + ")" * 101)
        self.refuses(100, "(" * 150 + "a" + ")" * 150)
        self.refuses(100, "(" * 101)
        self.refuses(100, "(" * 100)
        inner = "(a)and(b)"
        self.reads(("and", A, B), "(" * 99 + inner + ")" * 99)
        self.refuses(100, "(" * 100 + inner + ")" * 100)
        late = "(" * 99 + "(a)and (b and (c))" + ")" * 99
        self.refuses(late.index("(c"), late)
        self.reads(nots(79, A), "not(" * 79 + "a" + ")" * 79)

    def test_many_brackets_beside_each_other(self):
        text = "and".join(["(a)"] * 67)
        tree = A
        for _ in range(66):
            tree = ("and", tree, A)
        self.assertLessEqual(len(text), 400)
        self.reads(tree, text)

    def test_how_many_signs(self):
        self.reads(A, "a" + " " * 399)
        self.reads(nots(99, A), "not " * 99 + "   a")
        text = "or ".join(["a "] * 80)
        tree = A
        for _ in range(79):
            tree = ("or", tree, A)
        self.reads(tree, text)
        self.reads(tree, " " * (400 - len(text)) + text)
        for text in ("a" + " " * 400, " " * 401, "?" * 401, "a" * 401, "a b" + " " * 398, "(" * 401, "a" * 100000):
            self.fails(BadForm, {"at": 400}, form_of, ABC, text)
        self.refuses(0, "a" * 400)
        self.refuses(0, "?" * 400)

    def test_drawn_trees(self):
        for many, names in ((0, ()), (1, ("x",)), (3, ABC), (10, TEN)):
            for seed in range(60):
                tree = form_for(many, seed, 4)
                text = spread_out(names, tree, seed)
                if len(text) <= 400:
                    self.reads(tree, text, names)

    def test_drawn_texts(self):
        words = ["a", "b", "yes", "not", "not", "and", "or", "xor", "(", "(", ")", ")", "d", "ab", "?", "a", "(", "no"]
        for seed in range(1500):
            drawn = numbers_for(len(words), seed, 1 + seed % 9)
            text = " ".join(words[k] for k in drawn)
            told = read_plainly(ABC, text)
            if isinstance(told, tuple):
                self.reads(told, text)
            else:
                self.refuses(told, text)

    def test_all_short_texts(self):
        texts = [""]
        for _ in range(4):
            texts = texts + [text + word for text in texts for word in ("a ", "not ", "or ", "and ", "(", ")")]
        for text in sorted(set(texts)):
            told = read_plainly(("a",), text)
            if isinstance(told, tuple):
                self.assertEqual(form_of(("a",), text), told, text)
            else:
                self.fails(BadForm, {"at": told}, form_of, ("a",), text)

    def test_wrong_inputs(self):
        for names in wrong_names():
            self.fails(BadNames, {}, form_of, names, "yes")
        for text in wrong_texts():
            self.fails(NotText, {}, form_of, ABC, text)
        for text in wrong_texts():
            for names in (("a", "a"), None):
                self.fails(BadNames, {}, form_of, names, text)


class FormTextTest(PointCase):
    def test_brackets_only_where_needed(self):
        for text in (
                "yes", "no", "a", "not a", "not not a", "a and b", "a and b and c", "a and (b and c)", "a or b or c",
                "a or (b or c)", "a xor (b xor c)", "a or b xor c", "a or (b xor c)", "a xor b or c", "a xor (b or c)",
                "(a or b) and c", "a and (b or c)", "a or b and c", "a and b or c", "not (a and b)", "not (a or b)",
                "not a and not b", "not not (a xor b)", "(a xor b) and (b xor c)", "not (not a and b) or c",
                "a and not (b or c)", "not a or not (b and c and yes)", "(a or b) and (b or c) and (c or a)"):
            tree = read_plainly(ABC, text)
            self.tells(text, form_text, ABC, tree)

    def test_all_small_trees(self):
        for tree in all_forms(1, 3):
            text = form_text(("a",), tree)
            self.assertEqual(read_plainly(("a",), text), tree)
            self.assertNotIn("  ", text)
            self.needs_its_brackets(("a",), tree, text)

    def needs_its_brackets(self, names, tree, text):
        opened = []
        for at, sign in enumerate(text):
            if sign == "(":
                opened.append(at)
            if sign == ")":
                start = opened.pop()
                without = text[:start] + " " + text[start + 1:at] + " " + text[at + 1:]
                self.assertNotEqual(read_plainly(names, without), tree, text)

    def test_drawn_trees(self):
        for many, names in ((0, ()), (2, ("yesno", "abcdefgh")), (3, ABC), (10, TEN)):
            for seed in range(60):
                tree = form_for(many, seed, 5)
                if isinstance(read_plainly(names, form_text(names, tree)), tuple):
                    text = form_text(names, tree)
                    self.tells(text, form_text, names, tree)
                    self.assertEqual(read_plainly(names, text), tree)
                    self.needs_its_brackets(names, tree, text)
                    self.assertEqual(text, text.strip().replace("( ", "(").replace(" )", ")"))
                    if len(text) <= 400:
                        self.tells(tree, form_of, names, text)

    def test_as_many_tuples_as_may_be(self):
        self.tells("not " * 199 + "yes", form_text, (), nots(199, YES))
        self.fails(NoForm, {}, form_text, (), nots(200, YES))
        tree, text = A, "a"
        for _ in range(99):
            tree, text = ("or", A, tree), "a or (" + text + ")"
        self.tells(text.replace("(a)", "a"), form_text, ("a",), tree)
        self.tells("not (" + text.replace("(a)", "a") + ")", form_text, ("a",), ("not", tree))
        self.fails(NoForm, {}, form_text, ("a",), ("not", ("not", tree)))
        self.fails(NoForm, {}, form_text, ("a",), shared_form(7))
        self.assertEqual(form_text((), shared_form(3)).count("yes"), 8)
        with self.assertRaises(NoForm):
            form_text((), shared_form(100))

    def test_wrong_inputs(self):
        for names in wrong_names():
            self.fails(BadNames, {}, form_text, names, YES)
            self.fails(BadNames, {}, form_text, names, None)
        for many in (0, 1, 3, 10):
            for form in wrong_forms(many):
                self.fails(NoForm, {}, form_text, TEN[:many], form)


class SolutionsTest(PointCase):
    def test_drawn_trees(self):
        for many in range(7):
            for seed in range(25):
                tree = form_for(many, seed, 4)
                self.tells([row for row in bits_rows(many) if plain_form(tree, row)], solutions, many, tree)

    def test_edges(self):
        self.tells([()], solutions, 0, YES)
        self.tells([], solutions, 0, NO)
        self.tells(bits_rows(10), solutions, 10, YES)
        self.tells([], solutions, 10, NO)
        self.tells([row for row in bits_rows(10) if row[9]], solutions, 10, ("name", 9))
        self.tells([(0, 1), (1, 1)], solutions, 2, B)
        self.tells([(1, 0), (1, 1)], solutions, 2, A)
        self.tells([(0,)], solutions, 1, nots(199, A))
        self.tells([(1,)], solutions, 1, nots(198, A))

    def test_new_lists(self):
        one, other = solutions(2, A), solutions(2, A)
        one.append(None)
        self.assertEqual(other, [(1, 0), (1, 1)])
        self.assertEqual(solutions(2, A), other)

    def test_wrong_inputs(self):
        for many in wrong_many(10):
            self.fails(BadMany, {}, solutions, many, YES)
            self.fails(BadMany, {}, solutions, many, None)
        for many in (0, 1, 3, 10):
            for form in wrong_forms(many):
                self.fails(NoForm, {}, solutions, many, form)


def plain_form_rule(p, form):
    """The rule of a form, by the words of the document."""
    def against(rule):
        return ("minus", ("number", 1), rule)

    def signed(rule):
        return ("minus", ("number", 1), ("times", ("number", 2), rule))
    word = form[0]
    if word == "name":
        return form
    if word in ("yes", "no"):
        return ("number", 1 if word == "yes" else 0)
    parts = [plain_form_rule(p, part) for part in form[1:]]
    if word == "not":
        return against(parts[0])
    if word == "and":
        return ("times", parts[0], parts[1])
    if word == "or":
        return against(("times", against(parts[0]), against(parts[1])))
    return ("times", ("number", pow(2, -1, p)), against(("times", signed(parts[0]), signed(parts[1]))))


class FormRuleTest(PointCase):
    def test_each_word(self):
        one, two = ("number", 1), ("number", 2)
        self.tells(one, form_rule, 7, YES)
        self.tells(("number", 0), form_rule, 7, NO)
        self.tells(("name", 4), form_rule, 7, ("name", 4))
        self.tells(("minus", one, A), form_rule, 7, ("not", A))
        self.tells(("times", A, B), form_rule, 7, ("and", A, B))
        self.tells(("minus", one, ("times", ("minus", one, A), ("minus", one, B))), form_rule, 7, ("or", A, B))
        for p, half in ((5, 3), (7, 4), (11, 6), (BIG, 2 ** 30)):
            signed = [("minus", one, ("times", two, part)) for part in (A, B)]
            expected = ("times", ("number", half), ("minus", one, ("times", signed[0], signed[1])))
            self.tells(expected, form_rule, p, ("xor", A, B))

    def test_drawn_trees(self):
        for p in PRIMES:
            for many in range(5):
                for seed in range(8):
                    tree = form_for(many, seed, 4)
                    rule = form_rule(p, tree)
                    self.tells(plain_form_rule(p, tree), form_rule, p, tree)
                    for row in bits_rows(many):
                        self.assertEqual(plain_rule(p, rule, row), 1 if plain_form(tree, row) else 0)

    def test_large_trees(self):
        tree = A
        for _ in range(99):
            tree = ("xor", tree, B)
        rule = form_rule(7, tree)
        self.assertEqual(exact(rule), exact(plain_form_rule(7, tree)))
        self.assertFalse(is_rule(7, 2, rule))
        self.tells(plain_form_rule(7, nots(199, A)), form_rule, 7, nots(199, A))

    def test_wrong_primes(self):
        for p in wrong_primes():
            self.fails(BadPrime, {}, form_rule, p, A)


def chain(word, leaf, many):
    """A leaf so many times, joined from the left."""
    tree = leaf
    for _ in range(many - 1):
        tree = (word, tree, leaf)
    return tree


class CountSumTest(PointCase):
    def test_the_count_the_sum_and_the_solutions_tell_the_same(self):
        for many, deep in ((0, 2), (1, 2), (2, 2), (1, 3)):
            for tree in all_forms(many, deep):
                number = len(solutions(many, tree))
                self.assertEqual(number, sum(plain_form(tree, row) for row in bits_rows(many)))
                self.assertEqual(sum_of(5, many, form_rule(5, tree)), number)
                claimed = count_sum(5, many, tree, number)
                self.assertTrue(is_so(claimed))
                self.assertFalse(is_so(count_sum(5, many, tree, (number + 1) % 5)))

    def test_drawn_trees(self):
        for p in PRIMES:
            for many in range(7):
                for seed in range(6):
                    tree = form_for(many, seed, 3)
                    number = len(solutions(many, tree))
                    rule = form_rule(p, tree)
                    self.tells((p, many, rule, number % p), count_sum, p, many, tree, number % p)
                    self.assertTrue(is_so(count_sum(p, many, tree, number % p)))
                    self.assertFalse(is_so(count_sum(p, many, tree, (number + 2) % p)))
                    yes = [0] * 2 ** many
                    for row in solutions(many, tree):
                        yes[int("0" + "".join(map(str, row)), 2)] = 1
                    self.assertEqual(row_values(p, many, rule), tuple(yes))

    def test_told_whole_by_a_greater_prime(self):
        tree = chain("or", ("name", 9), 3)
        self.assertTrue(is_so(count_sum(1031, 10, tree, 512)))
        self.assertTrue(is_so(count_sum(1031, 10, YES, 1024)))
        self.assertTrue(is_so(count_sum(5, 10, YES, 1024 % 5)))

    def test_told_degrees(self):
        for word in ("and", "or", "xor"):
            for p in (5, 101):
                right = count_sum(p, 1, chain(word, A, 30), 1)
                self.assertEqual(told_degrees(1, right[2]), (30,))
                self.assertTrue(is_sum(right))
                self.fails(BadSum, {}, count_sum, p, 1, chain(word, A, 31), 1)
        both = ("and", chain("and", A, 30), chain("or", B, 30))
        self.assertTrue(is_sum(count_sum(7, 2, both, 1)))
        self.fails(BadSum, {}, count_sum, 7, 2, ("xor", both, B), 1)

    def test_rules_that_are_too_deep(self):
        self.assertTrue(is_sum(count_sum(7, 0, nots(199, YES), 1)))
        # Each xor puts five tuples more around its parts: 400 may stand within one another.
        chained = chain("xor", YES, 80)
        self.tells((7, 0, plain_form_rule(7, chained), 1), count_sum, 7, 0, chained, 1)
        self.fails(BadSum, {}, count_sum, 7, 0, chain("xor", YES, 81), 1)
        self.fails(BadSum, {}, count_sum, 7, 0, chain("xor", YES, 100), 1)
        deepest = nots(4, chained)
        self.assertTrue(is_sum(count_sum(7, 0, deepest, 1)))
        self.fails(BadSum, {}, count_sum, 7, 0, ("not", deepest), 1)

    def test_ten_names(self):
        tree = ("name", 0)
        for name in range(1, 10):
            tree = ("xor", tree, ("name", name))
        self.assertTrue(is_so(count_sum(BIG, 10, tree, 512)))
        self.tells((BIG, 10, form_rule(BIG, tree), 0), count_sum, BIG, 10, tree, 0)

    def test_wrong_inputs(self):
        for p in wrong_primes():
            self.fails(BadPrime, {}, count_sum, p, 1, A, 1)
        for many in wrong_many(10):
            self.fails(BadMany, {}, count_sum, 7, many, YES, 1)
        for many in (0, 1, 3, 10):
            for form in wrong_forms(many):
                self.fails(NoForm, {}, count_sum, 7, many, form, 1)
        for p in (5, 7, BIG):
            for claim in wrong_numbers(p):
                self.fails(BadNumber, {}, count_sum, p, 1, A, claim)
                self.fails(BadNumber, {}, count_sum, p, 1, chain("and", A, 31), claim)


BAD_P = (None, True, "7", 9, 3, [7], HUGE)
BAD_NAMES = (None, ["a"], "a", ("a", "a"), ("and",), ("A",), ("abcdefghi",), TEN + ("k",), 3)
BAD_TEXT = (None, True, 1, b"a", ("a",), ["a"], {"a": 1}, ())
BAD_FORM = (None, (), "a", ["name", 0], ("name", 3), ("name", True), ("and", YES), nots(200, YES), {"not": YES})
BAD_MANY = (None, True, -1, 11, "2", (2,), [2], HUGE)
BAD_NUMBER = (None, True, 7, -1, "1", (1,), [1], HUGE)
CALLS = (
    (form_of, (ABC, "a and b"), ((BAD_NAMES, "BadNames"), (BAD_TEXT, "NotText"))),
    (form_text, (ABC, A), ((BAD_NAMES, "BadNames"), (BAD_FORM, "NoForm"))),
    (solutions, (3, A), ((BAD_MANY, "BadMany"), (BAD_FORM, "NoForm"))),
    (form_rule, (7, A), ((BAD_P, "BadPrime"), ((A,), None))),
    (count_sum, (7, 3, A, 4), (
        (BAD_P, "BadPrime"), (BAD_MANY, "BadMany"), (BAD_FORM, "NoForm"), (BAD_NUMBER, "BadNumber"))),
)


class OrderTest(PointCase):
    def test_several_wrong_arguments(self):
        self.first_errors(CALLS)

    def test_of_one_parameter_and_at_last(self):
        self.fails(BadForm, {"at": 400}, form_of, (), "?" * 401)
        self.fails(BadNames, {}, form_of, ("a", "a"), "?" * 401)
        self.fails(NotText, {}, form_of, ABC, ["?" * 401])
        self.fails(BadNumber, {}, count_sum, 7, 1, chain("and", A, 31), 7)
        self.fails(NoForm, {}, count_sum, 7, 0, chain("and", A, 31), 7)
        self.fails(BadSum, {}, count_sum, 7, 1, chain("and", A, 31), 6)

    def test_nothing_is_left_behind(self):
        self.nothing_left_behind(CALLS)
        self.same_backward([(function, right) for function, right, _ in CALLS])


if __name__ == "__main__":
    unittest.main()
