"""Points [1], [41], [42] and [43]: sayings about small numbers, their rules and the claims that are made of them."""

import re
import unittest
from itertools import product

from pointsenough.errors import (
    BadMarked, BadNumber, BadPrime, BadRule, BadSaying, BadSum, BadValues, BadVars, NoSaying, NotText, TooGreat)
from pointsenough.marks import is_marked, marked_judged, marked_line, rounds_of, worth
from pointsenough.rules import is_rule, row_values, told_degrees
from pointsenough.sayings import (
    saying_holds, saying_marked, saying_of, saying_rule, saying_sum, saying_text)
from pointsenough.sums import is_so, is_sum, judged, loss, plain_line
from tests.support import (
    BIG, HUGE, YES, PointCase, any_values, bad_tuples, bits_rows, exact, nots, numbers_for, plain_product, plain_rule,
    plain_sum, wrong_numbers, wrong_primes, wrong_sayings, wrong_texts, wrong_vars,
)

PRIMES = (5, 7, 11, 101, 10007, BIG)
NUMBERS = (("x", 2), ("y", 1))
X, Y = ("var", 0), ("var", 1)
SIGNS = {"less": "<", "most": "<=", "same": "=", "add": "+", "mul": "*"}


def whole(number):
    return ("whole", number)


class Refused(Exception):
    """A saying cannot be read beyond the word at an index."""


class PlainReader:
    """Reads sayings by going down from what binds least, as the document tells it, word for word."""

    def __init__(self, given, text):
        self.names, self.text = [name for name, _ in given], text
        self.words = [(found.group(), found.start()) for found in re.finditer("[a-z]+|[0-9]+|<=|[^ ]", text)]
        self.next, self.within = 0, 0

    def word(self):
        return self.words[self.next][0] if self.next < len(self.words) else ""

    def refuse(self):
        raise Refused(self.words[self.next][1] if self.next < len(self.words) else len(self.text))

    def take(self, wanted=None):
        if wanted is not None and self.word() != wanted:
            self.refuse()
        self.next += 1
        return self.words[self.next - 1][0]

    def whole(self):
        tree = self.joined((("or", "xor"), ("and",)), self.single)
        if self.next < len(self.words):
            self.refuse()
        return tree

    def joined(self, levels, last):
        if not levels:
            return last()
        tree = self.joined(levels[1:], last)
        while self.word() in levels[0]:
            word = {"+": "add", "*": "mul"}.get(self.word(), self.word())
            self.take()
            tree = (word, tree, self.joined(levels[1:], last))
        return tree

    def bracket(self, begins, ends, levels, last):
        if self.within == 100:
            self.refuse()
        self.take(begins)
        self.within += 1
        tree = self.joined(levels, last)
        self.take(ends)
        self.within -= 1
        return tree

    def single(self):
        word = self.word()
        if word == "not":
            self.take()
            return ("not", self.single())
        if word in ("yes", "no"):
            return (self.take(),)
        if word == "(":
            return self.bracket("(", ")", (("or", "xor"), ("and",)), self.single)
        one = self.joined((("+",), ("*",)), self.count)
        if self.word() not in ("<", "<=", "="):
            self.refuse()
        sign = {"<": "less", "<=": "most", "=": "same"}[self.take()]
        return (sign, one, self.joined((("+",), ("*",)), self.count))

    def count(self):
        word = self.word()
        if word in self.names:
            return ("var", self.names.index(self.take()))
        if re.fullmatch("0|[1-9][0-9]?", word):
            return ("whole", int(self.take()))
        if word == "[":
            return self.bracket("[", "]", (("+",), ("*",)), self.count)
        return self.refuse()


def read_plainly(given, text):
    """What a text reads as: a tree, or the index at which it is refused."""
    try:
        return PlainReader(given, text).whole()
    except Refused as refused:
        return refused.args[0]


def count_for(given, seed, deep):
    """A side of a comparison that looks drawn."""
    kind, item = numbers_for(1000003, seed * 41 + deep, 2)
    if deep == 0 or kind % 5 == 0:
        return ("var", item % len(given)) if given and kind % 3 else ("whole", item % 100 if kind % 2 else item % 4)
    word = ("add", "mul", "add")[kind % 3]
    return (word, count_for(given, seed * 2 + 1, deep - 1), count_for(given, seed * 2 + 2, deep - 1))


def saying_for(given, seed, deep, sides=2):
    """A tree that looks drawn, with joins and comparisons of all kinds."""
    kind, item = numbers_for(1000003, seed * 43 + deep, 2)
    if deep == 0 or kind % 7 == 0:
        if item % 8 == 0:
            return ("yes",) if item % 16 else ("no",)
        word = ("less", "most", "same")[item % 3]
        return (word, count_for(given, seed * 2 + 1, sides), count_for(given, seed * 2 + 2, sides))
    if kind % 7 == 1:
        return ("not", saying_for(given, seed * 2 + 1, deep - 1, sides))
    word = ("and", "or", "xor")[kind % 3]
    return (word, saying_for(given, seed * 2 + 1, deep - 1, sides), saying_for(given, seed * 2 + 2, deep - 1, sides))


def plain_count(count, values):
    if count[0] == "var":
        return values[count[1]]
    if count[0] == "whole":
        return count[1]
    one, other = (plain_count(part, values) for part in count[1:])
    return one + other if count[0] == "add" else one * other


def plain_holds(saying, values):
    """Whether a saying is so, by its words."""
    word = saying[0]
    if word in ("yes", "no"):
        return word == "yes"
    if word in ("less", "most", "same"):
        one, other = (plain_count(part, values) for part in saying[1:])
        return {"less": one < other, "most": one <= other, "same": one == other}[word]
    parts = [plain_holds(part, values) for part in saying[1:]]
    if word == "not":
        return not parts[0]
    return {"and": all(parts), "or": any(parts), "xor": parts[0] != parts[1]}[word]


def all_values(given):
    return list(product(*[range(2 ** bits) for _, bits in given]))


def bits_of(given):
    return sum(bits for _, bits in given)


def bounds(given, count):
    """The least and the greatest that a side can be, each var by itself."""
    if count[0] == "var":
        return 0, 2 ** given[count[1]][1] - 1
    if count[0] == "whole":
        return count[1], count[1]
    (low, high), (least, most) = (bounds(given, part) for part in count[1:])
    return (low + least, high + most) if count[0] == "add" else (low * least, high * most)


def plain_through(p, values):
    """The line of least degree through pairs, as a sum of products, one for each pair."""
    told = ()
    for place, worth_there in values:
        part = (worth_there,) if worth_there else ()
        bottom = 1
        for other, _ in values:
            if other != place:
                part = plain_product(p, part, ((-other) % p, 1))
                bottom = bottom * (place - other) % p
        told = plain_sum(p, told, part, pow(bottom, p - 2, p))
    return told


def plain_count_rule(p, given, count):
    if count[0] == "var":
        start = bits_of(given[:count[1]])
        bits = given[count[1]][1]
        parts = [("times", ("number", 2 ** (bits - 1 - at) % p), ("name", start + at)) for at in range(bits)]
        told = parts[0]
        for part in parts[1:]:
            told = ("plus", told, part)
        return told
    if count[0] == "whole":
        return ("number", count[1] % p)
    one, other = (plain_count_rule(p, given, part) for part in count[1:])
    return ("plus" if count[0] == "add" else "times", one, other)


def plain_saying_rule(p, given, saying):
    """The rule of a saying, by the words of the document."""
    word, one_less = saying[0], ("number", 1)
    if word in ("yes", "no"):
        return ("number", 1 if word == "yes" else 0)
    if word in ("less", "most", "same"):
        (low, high), (least, most) = (bounds(given, part) for part in saying[1:])
        low, high = low - most, high - least
        so = {"less": lambda at: at < 0, "most": lambda at: at <= 0, "same": lambda at: at == 0}[word]
        line = plain_through(p, [(at % p, int(so(at))) for at in range(low, high + 1)])
        difference = ("minus", plain_count_rule(p, given, saying[1]), plain_count_rule(p, given, saying[2]))
        told = ("number", line[-1] if line else 0)
        for number in line[-2::-1]:
            told = ("plus", ("number", number), ("times", difference, told))
        return told
    parts = [plain_saying_rule(p, given, part) for part in saying[1:]]
    if word == "not":
        return ("minus", one_less, parts[0])
    if word == "and":
        return ("times", *parts)
    if word == "or":
        return ("minus", one_less, ("times", ("minus", one_less, parts[0]), ("minus", one_less, parts[1])))
    signed = [("minus", one_less, ("times", ("number", 2), part)) for part in parts]
    return ("times", ("number", pow(2, p - 2, p)), ("minus", one_less, ("times", *signed)))


def widest(given, saying):
    """The greatest high less low of all comparisons of a saying, -1 if it has none."""
    if saying[0] in ("less", "most", "same"):
        (low, high), (least, most) = (bounds(given, part) for part in saying[1:])
        return high - low + most - least
    return max([widest(given, part) for part in saying[1:]], default=-1)


def plain_text(given, saying):
    """The text of a tree, with a bracket wherever reading it without would lead to another tree."""
    word = saying[0]
    if word == "var":
        return given[saying[1]][0]
    if word == "whole":
        return str(saying[1])
    if word in ("yes", "no"):
        return word
    if word == "not":
        inner = plain_text(given, saying[1])
        return f"not ({inner})" if saying[1][0] in ("and", "or", "xor") else f"not {inner}"
    levels = ({"or": 0, "xor": 0, "and": 1}, {"add": 0, "mul": 1})[word in ("add", "mul")]
    begins, ends = "[]" if word in ("add", "mul") else "()"
    told = []
    for at, part in enumerate(saying[1:]):
        text = plain_text(given, part)
        if word in levels and part[0] in levels and levels[part[0]] < levels[word] + at:
            text = begins + text + ends
        told.append(text)
    return f" {SIGNS.get(word, word)} ".join(told)


def drawn_vars():
    return [(), (("x", 1),), (("x", 4),), NUMBERS, (("a", 2), ("b", 2)), (("x", 1), ("y", 1), ("z", 2)), (("abcdefgh", 3), ("k", 2)),
            (("a", 1), ("b", 1), ("c", 1), ("d", 1), ("e", 1))]


class ExamplesTest(PointCase):
    def test_examples(self):
        tree = ("and", ("same", ("add", X, Y), whole(3)), ("not", ("less", Y, whole(1))))
        self.tells(tree, saying_of, NUMBERS, "x + y = 3 and not y < 1")
        self.tells("x + y = 3 and not y < 1", saying_text, NUMBERS, tree)
        self.tells(True, saying_holds, NUMBERS, tree, (2, 1))
        self.tells(False, saying_holds, NUMBERS, tree, (3, 0))
        bit = ("times", ("number", 1), ("name", 0))
        told = ("plus", ("number", 1), ("times", ("minus", bit, ("number", 1)), ("number", 1)))
        self.tells(told, saying_rule, 11, (("y", 1),), ("same", ("var", 0), whole(1)))
        self.assertTrue(is_so(saying_sum(11, NUMBERS, tree, 1)))
        marked = saying_marked(11, NUMBERS, ("some", "all"), saying_of(NUMBERS, "y <= x"), 1)
        self.assertEqual(worth(marked), 1)


class SayingOfTest(PointCase):
    def reads(self, text, given=NUMBERS):
        told = read_plainly(given, text)
        if isinstance(told, int):
            self.fails(BadSaying, {"at": told}, saying_of, given, text)
        else:
            self.tells(told, saying_of, given, text)
        return told

    def test_drawn_ones(self):
        for given in drawn_vars():
            for seed in range(60):
                tree = saying_for(given, seed, seed % 4)
                text = plain_text(given, tree)
                for written in (text, text.replace(" ", "   "), f"  ( {text} ) "):
                    if len(written) <= 400:
                        self.tells(tree, saying_of, given, written)
                        self.assertEqual(self.reads(written, given), tree)

    def test_by_hand(self):
        less = ("less", X, whole(1))
        for text, tree in (
                ("x<1", less), (" x  <  1 ", less), ("x<=1", ("most", X, whole(1))), ("x=1", ("same", X, whole(1))),
                ("(x<1)", less), ("((x<1))", less), ("[x]<1", less), ("[[x]]<[1]", less), ("x<0", ("less", X, whole(0))),
                ("x<99", ("less", X, whole(99))), ("0=0", ("same", whole(0), whole(0))), ("yes", ("yes",)), ("no", ("no",)),
                ("x+y*2<1", ("less", ("add", X, ("mul", Y, whole(2))), whole(1))),
                ("x*y+2<1", ("less", ("add", ("mul", X, Y), whole(2)), whole(1))),
                ("[x+y]*2<1", ("less", ("mul", ("add", X, Y), whole(2)), whole(1))),
                ("x+y+1=x*y*1", ("same", ("add", ("add", X, Y), whole(1)), ("mul", ("mul", X, Y), whole(1)))),
                ("x+[y+1]=1", ("same", ("add", X, ("add", Y, whole(1))), whole(1))),
                ("not x<1", ("not", less)), ("not not x<1", ("not", ("not", less))), ("not(x<1)", ("not", less)),
                ("x<1and y=2", ("and", less, ("same", Y, whole(2)))), ("x<1or x<1and x<1", ("or", less, ("and", less, less))),
                ("x<1xor x<1or x<1", ("or", ("xor", less, less), less)), ("x<1 and (x<1 or x<1)", ("and", less, ("or", less, less))),
                ("not x<1and x<1", ("and", ("not", less), less)), ("yes and x<1", ("and", ("yes",), less)),
                ("1<x", ("less", whole(1), X)), ("2x<1", None), ("x2<1", None)):
            if tree is None:
                self.reads(text)
            else:
                self.tells(tree, saying_of, NUMBERS, text)
                self.assertEqual(self.reads(text), tree)

    def test_words_and_numbers_without_a_blank_between(self):
        less = ("less", X, whole(1))
        self.tells(("and", less, less), saying_of, NUMBERS, "x<1and x<1")
        self.tells(("not", ("less", whole(1), X)), saying_of, NUMBERS, "not1<x")
        self.tells(("or", less, ("most", whole(3), whole(2))), saying_of, NUMBERS, "x<1or3<=2")
        self.fails(BadSaying, {"at": 0}, saying_of, NUMBERS, "notx<1")
        self.fails(BadSaying, {"at": 4}, saying_of, NUMBERS, "x<1 andx<1")

    def test_words_that_cannot_stand(self):
        for text, at in (
                ("", 0), ("  ", 2), ("x", 1), ("x ", 2), ("1", 1), ("x<", 2), ("x<1 and", 7), ("not", 3), ("(", 1), ("[", 1), ("x+", 2),
                ("x+1", 3), ("x 1", 2), ("x y", 2), ("x<1<2", 3), ("x<1=2", 3), ("x=1<=2", 3), ("x<<1", 2), ("x< =1", 3), ("x<==1", 3),
                ("x==1", 2), ("x=<1", 2), ("x>1", 1), ("x>=1", 1), ("x-1<2", 1), ("x/1<2", 1), ("-1<x", 0), ("+1<x", 0), ("z<1", 0),
                ("x<z", 2), ("x<1 and x", 9), ("x and y<1", 2), ("x<y and", 7), ("(x)<1", 2), ("(x+1)<2", 4), ("x<(1)", 2),
                ("[x<1]", 2), ("[x<1", 2), ("[x<1)", 2), ("(x<1]", 4), ("(x<1", 4), ("[x", 2), ("[x]", 3), ("[x])", 3), ("[x)", 2), ("x]<1", 1),
                ("x<1)", 3), ("x<1]", 3), ("()", 1), ("[]<1", 1), ("yes<1", 3), ("yes+1<2", 3), ("yes yes", 4), ("[yes]<1", 1),
                ("x<yes", 2), ("x<not", 2), ("not<1", 3), ("x<[y", 4), ("x<[y]", -1), ("x<[y and", 5), ("x<1 [", 4), ("x<1 (", 4), ("x<1 not", 4),
                ("x<1 yes", 4), ("x<1 2", 4), ("x<1 x", 4), ("x<1.0", 3), ("x<100", 2), ("x<999", 2), ("100<x", 0), ("x<01", 2), ("x<00", 2),
                ("x<007", 2), ("x<1 and 100<2", 8), ("x<" + "9" * 300, 2), ("X<1", 0), ("x<1\n", 3), ("x\t<1", 1), ("x<\u0661", 2),
                ("x<\u00b2", 2), ("x<1;", 3), ("true", 0), ("x<1 nand x<1", 4), ("or x<1", 0), ("x<1 or or x<1", 7), ("*x<1", 0), ("x**y<1", 2),
                ("x++y<1", 2), ("x<1 and and", 8), ("not or", 4), ("(not)", 4), ("x<1,y<1", 3), ("x<1%2", 3), ("x<_", 2)):
            if at < 0:
                self.assertNotIsInstance(self.reads(text), int)
            else:
                self.fails(BadSaying, {"at": at}, saying_of, NUMBERS, text)
                self.assertEqual(self.reads(text), at)

    def test_all_short_rows_of_words(self):
        words = ("x", "3", "<", "=", "+", "(", ")", "[", "]", "not", "and", "yes")
        for many in range(1, 5):
            for row in product(words, repeat=many):
                text = " ".join(row)
                told = read_plainly(NUMBERS, text)
                try:
                    self.assertEqual(saying_of(NUMBERS, text), told)
                except BadSaying as error:
                    self.assertEqual(error.at, told, text)

    def test_bent_texts(self):
        for seed in range(12):
            text = plain_text(NUMBERS, saying_for(NUMBERS, seed * 7, 2))
            for at in range(len(text)):
                for sign in ("", "x", "(", ")", "[", "]", "<", "+", "1", " and ", " "):
                    self.reads(text[:at] + sign + text[at + 1:])
                self.reads(text[:at])

    def test_brackets_within_others(self):
        for begins, ends in (("(" * 100, ")" * 100), ("(" * 50, ")" * 50)):
            self.tells(("less", X, whole(1)), saying_of, NUMBERS, begins + "x<1" + ends)
        self.tells(("less", X, whole(1)), saying_of, NUMBERS, "[" * 100 + "x" + "]" * 100 + "<1")
        self.tells(("less", X, whole(1)), saying_of, NUMBERS, "(" * 60 + "[" * 40 + "x" + "]" * 40 + "<1" + ")" * 60)
        self.tells(("less", X, whole(1)), saying_of, NUMBERS, "(" * 60 + "x<" + "[" * 40 + "1" + "]" * 40 + ")" * 60)
        self.fails(BadSaying, {"at": 100}, saying_of, NUMBERS, "(" * 101 + "x<1" + ")" * 101)
        self.fails(BadSaying, {"at": 100}, saying_of, NUMBERS, "[" * 101 + "x" + "]" * 101 + "<1")
        self.fails(BadSaying, {"at": 100}, saying_of, NUMBERS, "(" * 60 + "[" * 41 + "x" + "]" * 41 + "<1" + ")" * 60)
        self.fails(BadSaying, {"at": 100}, saying_of, NUMBERS, "(" * 100 + "[x]<1" + ")" * 100)
        self.fails(BadSaying, {"at": 102}, saying_of, NUMBERS, "(" * 100 + "x<[1]" + ")" * 100)
        # Those that are closed count no more.
        text = "(" * 100 + "x<1" + ")" * 100
        self.tells(("and", ("less", X, whole(1)), ("less", X, whole(1))), saying_of, NUMBERS, text[50:-50] + "and" + text[50:-50])

    def test_lengths(self):
        for blanks in (0, 100, 396, 397):
            self.tells(("less", X, whole(1)), saying_of, NUMBERS, "x<1" + " " * blanks)
        self.fails(BadSaying, {"at": 400}, saying_of, NUMBERS, "x<1" + " " * 398)
        self.fails(BadSaying, {"at": 400}, saying_of, NUMBERS, "?" * 401)
        self.fails(BadSaying, {"at": 0}, saying_of, NUMBERS, "?" * 400)
        self.fails(BadSaying, {"at": 400}, saying_of, NUMBERS, " " * 400)
        longest = "x" + "+x" * 198 + "<1"
        self.assertEqual(len(longest), 399)
        tree = saying_of(NUMBERS, longest)
        self.assertEqual(saying_holds(NUMBERS, tree, (0, 0)), True)
        self.tells(plain_text(NUMBERS, tree), saying_text, NUMBERS, tree)

    def test_names_of_vars(self):
        given = (("one", 1), ("o", 1), ("form", 1), ("abcdefgh", 1), ("on", 1))
        self.tells(("less", ("var", 1), ("var", 0)), saying_of, given, "o<one")
        self.tells(("same", ("add", ("var", 4), ("var", 3)), ("var", 2)), saying_of, given, "on+abcdefgh=form")
        self.tells(("same", whole(1), whole(2)), saying_of, (), "1=2")
        self.fails(BadSaying, {"at": 0}, saying_of, (), "x=2")

    def test_wrong_inputs(self):
        for wrong in wrong_vars():
            self.fails(BadVars, {}, saying_of, wrong, "yes")
        for wrong in wrong_texts():
            self.fails(NotText, {}, saying_of, NUMBERS, wrong)


class VarsTest(PointCase):
    def test_bits_and_many(self):
        for bits in (1, 2, 3, 4):
            self.tells(YES, saying_of, (("x", bits),), "yes")
        for given in ((), (("a", 2),) * 1, tuple((name, 2) for name in "abcde"), (("a", 4), ("b", 4), ("c", 2)), (("a", 4), ("b", 4), ("c", 1))):
            self.tells(YES, saying_of, given, "yes")
        self.fails(BadVars, {}, saying_of, (("a", 4), ("b", 4), ("c", 3)), "yes")
        self.fails(BadVars, {}, saying_of, tuple((name, 1) for name in "abcdef"), "yes")
        for bits in (0, 5):
            self.fails(BadVars, {}, saying_of, (("x", bits),), "yes")


class SayingTextTest(PointCase):
    def test_drawn_ones(self):
        for given in drawn_vars():
            for seed in range(60):
                tree = saying_for(given, seed + 300, seed % 4)
                text = self.tells(plain_text(given, tree), saying_text, given, tree)
                self.assertEqual(read_plainly(given, text), tree)

    def test_brackets_only_where_needed(self):
        for tree, text in (
                (("less", ("add", X, ("add", Y, X)), X), "x + [y + x] < x"), (("less", ("add", ("add", X, Y), X), X), "x + y + x < x"),
                (("less", ("mul", X, ("add", Y, X)), X), "x * [y + x] < x"), (("less", ("add", X, ("mul", Y, X)), X), "x + y * x < x"),
                (("same", ("mul", X, ("mul", Y, X)), whole(10)), "x * [y * x] = 10"), (("most", whole(0), ("mul", ("mul", X, Y), X)), "0 <= x * y * x"),
                (("not", ("less", X, Y)), "not x < y"), (("not", ("not", ("less", X, Y))), "not not x < y"),
                (("not", ("and", YES, ("no",))), "not (yes and no)"), (("and", ("not", YES), YES), "not yes and yes"),
                (("and", YES, ("and", YES, YES)), "yes and (yes and yes)"), (("or", YES, ("and", YES, YES)), "yes or yes and yes"),
                (("and", ("or", YES, YES), YES), "(yes or yes) and yes"), (("xor", YES, ("or", YES, YES)), "yes xor (yes or yes)"),
                (("and", ("less", X, Y), ("or", ("same", X, Y), ("most", X, Y))), "x < y and (x = y or x <= y)")):
            self.tells(text, saying_text, NUMBERS, tree)
            self.tells(tree, saying_of, NUMBERS, text)

    def test_trees_of_400_tuples(self):
        for word in ("and", "or", "xor"):
            tree = ("no",)
            for _ in range(199):
                tree = (word, tree, ("yes",))
            self.tells("no" + f" {word} yes" * 199, saying_text, NUMBERS, tree)
            self.tells(" ".join(["not", "(no"]) + f" {word} yes" * 199 + ")", saying_text, NUMBERS, ("not", tree))
            self.fails(NoSaying, {}, saying_text, NUMBERS, ("not", ("not", tree)))
            self.fails(NoSaying, {}, saying_text, NUMBERS, (word, tree, ("yes",)))
        self.tells("not " * 399 + "yes", saying_text, NUMBERS, nots(399, YES))
        self.fails(NoSaying, {}, saying_text, NUMBERS, nots(400, YES))
        count = X
        for _ in range(198):
            count = ("add", X, count)
        tree = ("less", count, whole(1))
        self.tells("x + [" * 197 + "x + x" + "]" * 197 + " < 1", saying_text, NUMBERS, tree)
        self.tells("not " + "x + [" * 197 + "x + x" + "]" * 197 + " < 1", saying_text, NUMBERS, ("not", tree))
        self.fails(NoSaying, {}, saying_text, NUMBERS, ("not", ("not", tree)))
        self.fails(NoSaying, {}, saying_text, NUMBERS, ("less", ("add", X, count), whole(1)))

    def test_wrong_inputs(self):
        for wrong in wrong_vars():
            self.fails(BadVars, {}, saying_text, wrong, YES)
        for given in ((), NUMBERS):
            for wrong in wrong_sayings(given):
                self.fails(NoSaying, {}, saying_text, given, wrong)


class HoldsTest(PointCase):
    def test_drawn_ones(self):
        for given in drawn_vars():
            for seed in range(30):
                tree = saying_for(given, seed + 90, seed % 4)
                for values in all_values(given)[:12]:
                    self.tells(plain_holds(tree, values), saying_holds, given, tree, values)

    def test_numbers_are_whole_throughout(self):
        tree = ("less", ("mul", ("mul", whole(99), whole(99)), whole(99)), ("mul", ("mul", whole(99), whole(99)), whole(98)))
        self.tells(False, saying_holds, (), tree, ())
        power = ("whole", 99)
        for _ in range(150):
            power = ("mul", power, ("whole", 99))
        self.tells(True, saying_holds, (), ("less", power, ("add", power, whole(1)))[:1] + (whole(98), power), ())
        self.tells(False, saying_holds, (), ("most", power, whole(99)), ())

    def test_values_at_and_beyond_their_bounds(self):
        tree = ("same", X, whole(3))
        for value in range(4):
            self.tells(value == 3, saying_holds, NUMBERS, tree, (value, 1))
        for values in ((4, 0), (-1, 0), (0, 2), (0, -1), (3, 2), (HUGE, 0), (), (1,), (1, 1, 1), [1, 1], (True, 1), (1, True)):
            self.fails(BadValues, {}, saying_holds, NUMBERS, tree, values)
        self.tells(True, saying_holds, (("x", 4),), ("same", X, whole(15)), (15,))
        self.fails(BadValues, {}, saying_holds, (("x", 4),), ("same", X, whole(15)), (16,))

    def test_wrong_inputs(self):
        for wrong in wrong_vars():
            self.fails(BadVars, {}, saying_holds, wrong, YES, (1, 1))
        for wrong in wrong_sayings(NUMBERS):
            self.fails(NoSaying, {}, saying_holds, NUMBERS, wrong, (1, 1))
        for wrong in any_values() + bad_tuples() + [0, HUGE, (), (1,), (0, 1, 1), ((1, 1),), (1, (1,))]:
            self.fails(BadValues, {}, saying_holds, NUMBERS, YES, wrong)


class RuleTest(PointCase):
    def test_drawn_ones(self):
        told, ruled = 0, 0
        for p in PRIMES:
            for given in drawn_vars():
                for seed in range(24):
                    tree = saying_for(given, seed + 17, seed % 3, 1)
                    most = min(p - 1, 400)
                    told += 1
                    if widest(given, tree) > most:
                        self.fails(TooGreat, {"most": most}, saying_rule, p, given, tree)
                        continue
                    if widest(given, tree) > 60:
                        continue
                    rule = plain_saying_rule(p, given, tree)
                    if not is_rule(p, bits_of(given), rule):
                        self.fails(BadRule, {}, saying_rule, p, given, tree)
                        continue
                    ruled += 1
                    self.assertEqual(saying_rule(p, given, tree), rule)
                    self.assertEqual(exact(saying_rule(p, given, tree)), exact(rule))
        self.assertGreater(ruled, told // 3)

    def test_truth_at_all_rows(self):
        for p in (11, 101, BIG):
            for given in drawn_vars():
                for seed in range(12):
                    tree = saying_for(given, seed + 60, seed % 3, 1)
                    if widest(given, tree) <= min(p - 1, 40):
                        rule = plain_saying_rule(p, given, tree)
                        if is_rule(p, bits_of(given), rule):
                            truth = tuple(int(plain_holds(tree, values)) for values in all_values(given))
                            self.assertEqual(row_values(p, bits_of(given), saying_rule(p, given, tree)), truth)
                            self.assertEqual(tuple(plain_rule(p, rule, row) for row in bits_rows(bits_of(given))), truth)

    def test_leaves_and_joins(self):
        bit = ("times", ("number", 1), ("name", 0))
        given = (("x", 1),)
        self.tells(("number", 1), saying_rule, 7, given, ("yes",))
        self.tells(("number", 0), saying_rule, 7, given, ("no",))
        self.tells(("minus", ("number", 1), ("number", 0)), saying_rule, 7, given, ("not", ("no",)))
        self.tells(("times", ("number", 1), ("number", 0)), saying_rule, 7, given, ("and", YES, ("no",)))
        is_one = saying_rule(7, given, ("same", ("var", 0), whole(1)))
        self.assertEqual(is_one, ("plus", ("number", 1), ("times", ("minus", bit, ("number", 1)), ("number", 1))))
        self.tells(("number", 0), saying_rule, 17, (("y", 1), ("x", 4)), ("less", ("var", 1), whole(0)))

    def test_vars_by_p(self):
        rule = saying_rule(5, (("x", 2), ("y", 1)), ("less", X, whole(1)))
        x = ("plus", ("times", ("number", 2), ("name", 0)), ("times", ("number", 1), ("name", 1)))
        self.assertEqual(rule[2][1], ("minus", x, ("number", 1)))
        # By 5 the greatest bit of x counts 8, which is 3, and 17 is 2; that there is no place for it is told first.
        self.fails(TooGreat, {"most": 4}, saying_rule, 5, (("x", 4),), ("less", ("var", 0), whole(17)))
        rule = saying_rule(17, (("x", 4),), ("less", ("var", 0), whole(18)))
        self.assertEqual(rule, ("number", 1))
        rule = saying_rule(17, (("x", 4),), ("less", ("var", 0), whole(15)))
        self.assertEqual(rule[2][1][1][1][1], ("plus", ("times", ("number", 8), ("name", 0)), ("times", ("number", 4), ("name", 1))))

    def test_comparisons_that_always_hold_and_never_do(self):
        for text, told in (("x < 4", 1), ("x < 0", 0), ("x <= 3", 1), ("4 <= x", 0), ("x = 4", 0), ("0 <= x", 1), ("4 < x", 0),
                           ("x + 4 = x", 0), ("1 = 1", 1), ("1 < 1", 0), ("1 <= 1", 1), ("2 * 3 = 6", 1), ("0 * x = 0", 1)):
            self.tells(("number", told), saying_rule, 11, NUMBERS, saying_of(NUMBERS, text))

    def test_low_and_high_alike(self):
        for text, told in (("5 < 6", 1), ("6 < 5", 0), ("5 = 5", 1), ("99 * 99 = 99 * 98", 0), ("[1 + 2] * 3 <= 9", 1)):
            for p in (5, 7, BIG):
                self.tells(("number", told), saying_rule, p, (), saying_of((), text))

    def test_bounds_by_themselves(self):
        # x less x is from -3 to 3 though it is always 0, so that there are seven places.
        tree = ("same", X, X)
        self.fails(TooGreat, {"most": 4}, saying_rule, 5, NUMBERS, tree)
        rule = saying_rule(7, NUMBERS, tree)
        self.assertEqual(rule, plain_saying_rule(7, NUMBERS, tree))
        self.assertEqual(len(plain_through(7, [(at % 7, int(at == 0)) for at in range(-3, 4)])), 7)

    def test_high_less_low_at_and_above_p(self):
        given = (("x", 3), ("y", 2), ("z", 1))
        ten, eleven = ("add", X, Y), ("add", ("add", X, Y), ("var", 2))
        for other in (whole(0), whole(3), whole(99)):
            for word in ("less", "most", "same"):
                self.tells(plain_saying_rule(11, given, (word, ten, other)), saying_rule, 11, given, (word, ten, other))
                self.fails(TooGreat, {"most": 10}, saying_rule, 11, given, (word, eleven, other))
                self.fails(TooGreat, {"most": 10}, saying_rule, 11, given, (word, other, eleven))
                self.fails(TooGreat, {"most": 10}, saying_rule, 11, given, ("and", YES, (word, other, eleven)))
                self.tells(plain_saying_rule(13, given, (word, eleven, other)), saying_rule, 13, given, (word, eleven, other))

    def test_high_less_low_of_400_and_401(self):
        given = (("x", 4), ("z", 1))
        great = ("mul", whole(99), whole(5))
        for p in (401, 409, 10007, BIG):
            for times, fits in ((10, True), (11, False), (9, True), (12, False)):
                count = ("add", ("mul", X, whole(26)), ("mul", Y, whole(times)))
                for tree, told in ((("less", count, great), 1), (("most", great, count), 0), (("same", great, count), 0)):
                    if fits:
                        self.tells(("number", told), saying_rule, p, given, tree)
                    else:
                        self.fails(TooGreat, {"most": 400}, saying_rule, p, given, tree)
        count = ("add", ("mul", X, whole(26)), ("mul", Y, whole(8)))
        self.tells(("number", 1), saying_rule, 401, given, ("less", count, great))
        self.fails(TooGreat, {"most": 396}, saying_rule, 397, given, ("less", count, great))

    def test_products_bounds(self):
        given = (("x", 2), ("y", 2))
        self.fails(TooGreat, {"most": 6}, saying_rule, 7, given, ("less", ("mul", X, Y), whole(3)))
        self.tells(plain_saying_rule(11, given, ("less", ("mul", X, Y), whole(3))), saying_rule, 11, given, ("less", ("mul", X, Y), whole(3)))
        least = ("mul", ("add", X, whole(2)), ("add", Y, whole(3)))
        self.tells(plain_saying_rule(29, given, ("most", least, whole(7))), saying_rule, 29, given, ("most", least, whole(7)))
        self.fails(TooGreat, {"most": 22}, saying_rule, 23, given, ("most", least, whole(7)))

    def test_rules_that_get_too_large_or_too_deep(self):
        given = (("x", 4),)
        deep = ("less", ("mul", ("var", 0), whole(14)), whole(99))
        self.fails(BadRule, {}, saying_rule, BIG, given, deep)
        self.fails(BadRule, {}, saying_rule, BIG, given, ("and", deep, ("no",)))
        # With so many tuples in the difference a degree of 30 fits and one of 45 doesn't.
        for times, fits in ((1, True), (2, False)):
            tree = ("less", ("add", ("add", ("var", 0), ("var", 0)), ("mul", ("var", 0), whole(times - 1))), whole(7))
            rule = plain_saying_rule(101, given, tree)
            self.assertEqual(is_rule(101, 4, rule), fits)
            if fits:
                self.tells(rule, saying_rule, 101, given, tree)
            else:
                self.fails(BadRule, {}, saying_rule, 101, given, tree)
        chain = YES
        for _ in range(100):
            chain = ("xor", chain, YES)
        self.fails(BadRule, {}, saying_rule, 11, (), chain)
        chain = YES
        for _ in range(79):
            chain = ("xor", chain, YES)
        self.assertTrue(is_rule(11, 0, saying_rule(11, (), chain)))
        # TooGreat comes ahead of it, wherever it is told.
        great = ("less", ("mul", ("mul", ("var", 0), whole(14)), whole(14)), whole(99))
        self.fails(TooGreat, {"most": 400}, saying_rule, BIG, given, ("and", deep, great))
        self.fails(TooGreat, {"most": 400}, saying_rule, BIG, given, ("and", great, deep))

    def test_wrong_inputs(self):
        for wrong in wrong_primes():
            self.fails(BadPrime, {}, saying_rule, wrong, NUMBERS, YES)
        for wrong in wrong_vars():
            self.fails(BadVars, {}, saying_rule, 11, wrong, YES)
        for wrong in wrong_sayings(NUMBERS):
            self.fails(NoSaying, {}, saying_rule, 11, NUMBERS, wrong)


SOME_SAYINGS = ("x + y = 3", "x < y or y = 0", "not x = 2 and y <= x", "x * y = 1 xor x < 2", "yes", "x + x = 3", "2 * x <= 3 + y")


class SumTest(PointCase):
    def test_counts(self):
        for p in (11, 101, BIG):
            for text in SOME_SAYINGS:
                tree = saying_of(NUMBERS, text)
                so = sum(plain_holds(tree, values) for values in all_values(NUMBERS))
                rule = plain_saying_rule(p, NUMBERS, tree)
                for claim in (so % p, (so + 1) % p):
                    claimed = self.tells((p, 3, rule, claim), saying_sum, p, NUMBERS, tree, claim)
                    self.assertTrue(is_sum(claimed))
                    self.assertEqual(is_so(claimed), claim == so % p)

    def test_judged(self):
        claimed = saying_sum(101, NUMBERS, saying_of(NUMBERS, "x + y = 3"), 2)
        draws = (5, 6, 7)
        lines = [plain_line(claimed, draws[:k]) for k in range(3)]
        self.assertEqual(judged(claimed, lines, draws), ("passed",))
        self.assertEqual(judged(claimed[:3] + (3,), lines, draws), ("caught", 0, "halves"))
        self.assertEqual(loss(claimed), (101 ** 3 - 97 ** 3, 101 ** 3))

    def test_told_degrees_above_30(self):
        given = (("x", 4), ("y", 4))
        thirty = ("less", ("add", X, Y), whole(9))
        self.assertEqual(told_degrees(8, saying_rule(101, given, thirty)), (30,) * 8)
        self.assertTrue(is_sum(saying_sum(101, given, thirty, 9)))
        given = (("x", 4), ("y", 4), ("z", 1))
        more = ("less", ("add", ("add", X, Y), ("var", 2)), whole(9))
        self.assertEqual(told_degrees(9, saying_rule(101, given, more)), (31,) * 9)
        self.fails(BadSum, {}, saying_sum, 101, given, more, 9)
        twice = ("and", ("less", X, whole(9)), ("most", X, whole(7)))
        self.assertEqual(told_degrees(4, saying_rule(101, (("x", 4),), twice)), (30,) * 4)
        self.assertTrue(is_sum(saying_sum(101, (("x", 4),), twice, 9)))
        self.fails(BadSum, {}, saying_sum, 101, (("x", 4),), ("and", twice, ("less", X, whole(1))), 9)

    def test_what_is_no_rule(self):
        deep = ("less", ("mul", X, whole(14)), whole(99))
        self.fails(BadSum, {}, saying_sum, BIG, (("x", 4),), deep, 9)
        self.fails(BadMarked, {}, saying_marked, BIG, (("x", 4),), ("all",), deep, 9)

    def test_wrong_inputs(self):
        for wrong in wrong_primes():
            self.fails(BadPrime, {}, saying_sum, wrong, NUMBERS, YES, 1)
        for wrong in wrong_vars():
            self.fails(BadVars, {}, saying_sum, 11, wrong, YES, 1)
        for wrong in wrong_sayings(NUMBERS):
            self.fails(NoSaying, {}, saying_sum, 11, NUMBERS, wrong, 1)
        for wrong in wrong_numbers(11):
            self.fails(BadNumber, {}, saying_sum, 11, NUMBERS, YES, wrong)


def plain_marked_truth(given, marks, saying, ahead=()):
    if len(ahead) == len(given):
        return plain_holds(saying, ahead)
    tries = [plain_marked_truth(given, marks, saying, ahead + (value,)) for value in range(2 ** given[len(ahead)][1])]
    return all(tries) if marks[len(ahead)] == "all" else any(tries)


class MarkedTest(PointCase):
    def test_truth(self):
        for p in (11, 101):
            for text in SOME_SAYINGS:
                tree = saying_of(NUMBERS, text)
                rule = plain_saying_rule(p, NUMBERS, tree)
                for marks in product(("all", "some"), repeat=2):
                    truth = int(plain_marked_truth(NUMBERS, marks, tree))
                    bit_marks = (marks[0], marks[0], marks[1])
                    marked = self.tells((p, bit_marks, rule, truth), saying_marked, p, NUMBERS, marks, tree, truth)
                    self.assertTrue(is_marked(marked))
                    self.assertEqual(worth(marked), truth)

    def test_judged(self):
        marked = saying_marked(101, NUMBERS, ("some", "all"), saying_of(NUMBERS, "y <= x"), 1)
        draws = tuple(range(5, 5 + len(rounds_of(marked))))
        lines = [marked_line(marked, draws[:k]) for k in range(len(draws))]
        self.assertEqual(marked_judged(marked, lines, draws), ("passed",))

    def test_marks_for_each_bit(self):
        given = (("x", 3), ("y", 1), ("z", 2))
        marked = saying_marked(11, given, ("some", "all", "some"), YES, 1)
        self.assertEqual(marked[1], ("some",) * 3 + ("all",) + ("some",) * 2)
        self.tells((5, (), ("number", 1), 1), saying_marked, 5, (), (), YES, 1)

    def test_more_than_six_bits(self):
        six = (("x", 4), ("y", 2))
        self.assertTrue(is_marked(saying_marked(11, six, ("all", "some"), YES, 1)))
        for given in ((("x", 4), ("y", 3)), (("x", 4), ("y", 4))):
            self.fails(BadMarked, {}, saying_marked, 11, given, ("all", "some"), YES, 1)
            self.fails(NoSaying, {}, saying_marked, 11, given, ("all", "some"), ("maybe",), 1)
            self.fails(BadNumber, {}, saying_marked, 11, given, ("all", "some"), YES, 11)
            great = ("less", ("mul", X, Y), whole(3))
            self.fails(TooGreat, {"most": 10}, saying_marked, 11, given, ("all", "some"), great, 1)

    def test_wrong_inputs(self):
        for wrong in wrong_primes():
            self.fails(BadPrime, {}, saying_marked, wrong, NUMBERS, ("all", "some"), YES, 1)
        for wrong in wrong_vars():
            self.fails(BadVars, {}, saying_marked, 11, wrong, ("all", "some"), YES, 1)
        bad = any_values() + bad_tuples() + [0, (), ("all",), ("all", "some", "all"), ["all", "some"], ("all", "any"), ("ALL", "some")]
        bad += [("all", ("some",)), "allsome", {"all": "some", "some": "all"}, ("all", None), (True, "all"), (("all", "some"),)]
        for wrong in bad:
            self.fails(BadMarked, {}, saying_marked, 11, NUMBERS, wrong, YES, 1)
        for wrong in wrong_sayings(NUMBERS):
            self.fails(NoSaying, {}, saying_marked, 11, NUMBERS, ("all", "some"), wrong, 1)
        for wrong in wrong_numbers(11):
            self.fails(BadNumber, {}, saying_marked, 11, NUMBERS, ("all", "some"), YES, wrong)


SO = ("less", X, Y)
BAD_P = (None, True, "7", 9, 3, [7], HUGE)
BAD_VARS = (None, (("x", 5),), [("x", 2)], (("x", 2), ("x", 1)), {"x": 2}, (("x", True),), "x2", (("X", 1),))
BAD_TEXT = (None, True, 1, b"yes", ("yes",), ["yes"], {"yes": 1}, ())
BAD_SAYING = (None, (), ("var", 0), ["yes"], ("less", X, ("var", 2)), "yes", ("not", X), ("less", X, ("whole", 100)))
BAD_VALUES = (None, (), (4, 0), [1, 1], (True, 1), (1,), "11", (1, 2))
BAD_NUMBER = (None, True, 11, -1, "1", (1,), [1], HUGE)
BAD_MARKS = (None, (), ("all",), ["all", "some"], ("all", "any"), "allsome", ("all", None), 1)
CALLS = (
    (saying_of, (NUMBERS, "x < y"), ((BAD_VARS, "BadVars"), (BAD_TEXT, "NotText"))),
    (saying_text, (NUMBERS, SO), ((BAD_VARS, "BadVars"), (BAD_SAYING, "NoSaying"))),
    (saying_holds, (NUMBERS, SO, (1, 0)), ((BAD_VARS, "BadVars"), (BAD_SAYING, "NoSaying"), (BAD_VALUES, "BadValues"))),
    (saying_rule, (11, NUMBERS, SO), ((BAD_P, "BadPrime"), (BAD_VARS, "BadVars"), (BAD_SAYING, "NoSaying"))),
    (saying_sum, (11, NUMBERS, SO, 3), (
        (BAD_P, "BadPrime"), (BAD_VARS, "BadVars"), (BAD_SAYING, "NoSaying"), (BAD_NUMBER, "BadNumber"))),
    (saying_marked, (11, NUMBERS, ("all", "some"), SO, 3), (
        (BAD_P, "BadPrime"), (BAD_VARS, "BadVars"), (BAD_MARKS, "BadMarked"), (BAD_SAYING, "NoSaying"),
        (BAD_NUMBER, "BadNumber"))),
)


class OrderTest(PointCase):
    def test_several_wrong_arguments(self):
        self.first_errors(CALLS)

    def test_about_several_parameters_behind_those_of_all(self):
        great = ("less", ("mul", X, whole(9)), whole(9))
        self.fails(BadNumber, {}, saying_sum, 5, NUMBERS, great, 5)
        self.fails(TooGreat, {"most": 4}, saying_sum, 5, NUMBERS, great, 4)
        self.fails(BadNumber, {}, saying_marked, 5, NUMBERS, ("all", "some"), great, 5)
        self.fails(TooGreat, {"most": 4}, saying_marked, 5, NUMBERS, ("all", "some"), great, 4)
        self.fails(BadSaying, {"at": 400}, saying_of, NUMBERS, "x" * 401)
        self.fails(BadVars, {}, saying_of, (("x", 5),), "x" * 401)

    def test_nothing_is_left_behind(self):
        self.nothing_left_behind(CALLS)
        self.same_backward([(function, right) for function, right, _ in CALLS])


if __name__ == "__main__":
    unittest.main()
