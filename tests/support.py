"""What the tests share: strict comparison, wrong values of each sort, and plain reckoning to compare with."""

import unittest
from fractions import Fraction
from itertools import combinations, product

from pointsenough import errors

BIG = 2 ** 31 - 1
HUGE = 10 ** 399


def nested(deep, make):
    value = 1
    for _ in range(deep):
        value = make(value)
    return value


def exact(told):
    """What tells a plain value with the kinds of all its parts: 1, True, [1] and (1,) are all unlike."""
    return repr(told)


def any_values():
    """One or more of each sort of any value that is neither a plain integer nor a tuple of such."""
    return [
        None, True, False, "", "0", "1", "5", "7", "x", "1 2", "(1, 2)",
        [], [0], [1], [5], [1, 2], [(1, 2)], [[1, 2], [3, 4]], [None],
        {}, {0: 1}, {1: 2}, {"a": [1, 2]}, {(1, 2): {"b": None}}, {0: (1, 2), 1: (3, 4)},
        nested(400, lambda value: (value,)), nested(400, lambda value: [value]), nested(400, lambda value: {0: value}),
    ]


def bad_tuples():
    """Tuples with an item that is no number by any p."""
    return [
        (None,), (True,), (False,), ("1",), ("",), ([],), ([1],), ({},), ((),), ((1,),), (-1,), (HUGE,), (-HUGE,),
        (1, None), (None, 1), (1, True), (True, 1), (0, False), (False, 0), (1, "1"), ("1", 1), (1, [1]), ([1], 1),
        (1, -1), (-1, 1), (1, (1,)), ((1,), 1), (1, HUGE), (HUGE, 1), (1, 2, 3, True), (1, {}, 2, 3), (True, True),
        (False, True), (BIG, 1), (1, BIG),
    ]


def wrong_primes():
    return any_values() + bad_tuples() + [
        -HUGE, -7, -5, -1, 0, 1, 2, 3, 4, 6, 8, 9, 15, 25, 49, 91, 121, 341, 561, 1105, 2047, 3277, 10001, 1373653,
        25326001, 161304001, 46337 * 46337, 46327 * 46337, 2 ** 31 - 2, 2 ** 31, 2 ** 31 + 11, 3215031751, 2 ** 61 - 1,
        HUGE, (), (5,), (7, 11),
    ]


def wrong_numbers(p):
    return any_values() + bad_tuples() + [-HUGE, -p, -1, p, p + 1, 2 * p, HUGE, (), (1,), (1, 2)]


def wrong_times():
    return any_values() + bad_tuples() + [-HUGE, -2, -1, (), (1,)]


def wrong_integers(low, high):
    return any_values() + bad_tuples() + [-HUGE, low - 2, low - 1, high + 1, high + 2, HUGE, (), (1,), (1, 2)]


def wrong_lines(p):
    return any_values() + bad_tuples() + [
        -1, 0, 1, 2, p, HUGE, (0,), (0, 0), (1, 0), (0, 1, 0), (1, 2, 3, 0, 0), (p,), (1, p), (p, 1), (1, p, 1),
        (1, p + 1), (-p,), (1,) * 201, (0,) * 200 + (1,), (1,) * 199 + (0,), (1,) * 200 + (0,), (1,) * 199 + (p,),
        (0,) * 200, (1,) * 1000,
    ]


def wrong_pairs(p):
    return any_values() + bad_tuples() + [
        0, 1, HUGE, (1,), (1, 2), ((),), ((1,),), ((1, 2, 3),), ([1, 2],), ("12",), ({1: 2, 3: 4},), ((1, 2), None),
        ((1, 2), (3,)), ((1, 2), [3, 4]), ((1, 2), (3, 4, 5)), ((1, p),), ((p, 1),), ((-1, 1),), ((1, -1),),
        ((True, 1),), ((1, True),), ((0, False),), ((None, 1),), ((1, "1"),), ((1, (2,)),), ((1, 2), (3, p)),
        ((1, 2), (p, 3)), ((1, 2), (p + 1, 3)), ((1, 2), (1, 2), (1, p)), ((1, 2), (1, 3), 4), ((1, 1),) * 61,
        tuple((place, 1) for place in range(61)), ((1, 2), 3, (4, 5)), (((1, 2),),),
    ]


def wrong_places(p):
    return any_values() + bad_tuples() + [
        0, 1, HUGE, (p,), (1, p), (p, 1), (-p, 1), (1, p + 1), (1,) * 61, (0,) * 61, (1,) * 59 + (p,), ((1, 2),),
    ]


def wrong_tables(p):
    sizes = (0, 3, 5, 6, 7, 9, 12, 15, 1000, 1023, 1025, 1536, 2047, 2048, 4096)
    return any_values() + bad_tuples() + [(1,) * size for size in sizes] + [
        0, 1, 2, HUGE, (p,), (1, p), (p, 1), (1, 2, 3, p), (1, 2, p + 1, 3), (-p, 0), (1,) * 1023 + (p,), ((1, 2),),
    ]


def wrong_rows():
    return any_values() + bad_tuples() + [
        0, 1, HUGE, (2,), (0, 2), (2, 0), (1, 3), (0,) * 11, (1,) * 11, (0,) * 12, (1,) * 9 + (2,), ((0, 1),),
    ]


def wrong_points(p, most):
    return any_values() + bad_tuples() + [
        0, 1, HUGE, (p,), (1, p), (p, 1), (1, p + 1), (-p,), (1,) * (most + 1), (0,) * (most + 2), (1,) * 200,
        (1,) * (most - 1) + (p,), ((1, 2),),
    ]


NUMBER = ("number", 1)


def plus_tree(leaves):
    """The rule that adds up rules, by twos, so that it stays flat."""
    parts = list(leaves)
    while len(parts) > 1:
        pairs = [("plus", one, other) for one, other in zip(parts[::2], parts[1::2])]
        parts = pairs + parts[2 * len(pairs):]
    return parts[0]


def deep_rule(within, leaf):
    """A rule with so many tuples within one another."""
    rule = leaf
    for _ in range(within - 1):
        rule = ("plus", rule, leaf)
    return rule


def shared_rule(times):
    """A rule of few objects that has 2 ** (times + 1) - 1 tuples (beware of showing great ones)."""
    rule = NUMBER
    for _ in range(times):
        rule = ("plus", rule, rule)
    return rule


def wrong_leaves(p, many):
    """What is no rule in so many names, without joins around it."""
    return [
        (), ("number",), ("name",), ("plus",), ("table",), ("number", p), ("number", p + 1), ("number", -1),
        ("number", HUGE), ("number", True), ("number", False), ("number", None), ("number", "1"), ("number", (1,)),
        ("number", [1]), ("number", 1, 1), ("number", 1, ()), ["number", 1], ("Number", 1), (1, "number"), (b"number", 1),
        ("name", many), ("name", many + 1), ("name", -1), ("name", HUGE), ("name", True), ("name", False),
        ("name", None), ("name", "0"), ("name", (0,)), ("name", [0]), ("name", 0, 0), ["name", 0], ("", 0), (None, 0),
        ("plus", NUMBER), ("plus", 1), ("minus", NUMBER, NUMBER, NUMBER), ("times",), ["plus", NUMBER, NUMBER],
        ("over", NUMBER, NUMBER), ("and", NUMBER, NUMBER), (NUMBER, NUMBER, NUMBER), (0, NUMBER, NUMBER),
        ("number", NUMBER, NUMBER), ("name", NUMBER, NUMBER), ("sum", NUMBER), (["plus"], NUMBER, NUMBER),
        ("table", (1,)), ("table", (1,), (), ()), ("table", (1, 2), ()), ("table", (1,), (NUMBER,)),
        ("table", (1, 2), (NUMBER, NUMBER)), ("table", (1, 2, 3, 4), (NUMBER,)), ("table", (), ()),
        ("table", (1, 2, 3), (NUMBER, NUMBER)), ("table", [1, 2], (NUMBER,)), ("table", (1, 2), [NUMBER]),
        ("table", (1, p), (NUMBER,)), ("table", (1, True), (NUMBER,)), ("table", (-1, 1), (NUMBER,)),
        ("table", (1, 2), (("number", p),)), ("table", (1, 2), (("number", True),)), ("table", (1, 2), (("name", many),)),
        ("table", (1, 2), (("name", False),)), ("table", (1, 2), (("name", -1),)), ("table", (1, 2), (1,)),
        ("table", (1, 2), (None,)), ("table", (1, 2), ("name",)), ("table", (1, 2), (["number", 1],)),
        ("table", (1, 2), (("plus", NUMBER, NUMBER),)), ("table", (1, 2), (("table", (1,), ()),)), ("table", 1, ()),
        ("table", (1, 2), NUMBER), ("table", (1, 2), (("number",),)), ("table", (1, 2), (("number", 1, 1),)),
        ("table", (1, 2, 3, 4), (NUMBER, ("name", many))), ("table", (1,) * 2048, (NUMBER,) * 11),
        ["table", (1, 2), (NUMBER,)], ("tables", (1, 2), (NUMBER,)), ("", (1,), ()), (None, (1, 2), (NUMBER,)),
        ("table", (1, 2), {0: NUMBER}), ("table", "12", (NUMBER,)), ("table", (1,), None),
    ]


def wrong_rules(p, many):
    """What is no rule in so many names."""
    leaves = any_values() + bad_tuples() + [0, 1, HUGE, -1] + wrong_leaves(p, many)
    joined = [("plus", NUMBER, leaf) for leaf in leaves] + [("times", leaf, NUMBER) for leaf in leaves[::2]]
    joined += [("minus", ("plus", NUMBER, leaf), NUMBER) for leaf in leaves[::3]]
    large = [plus_tree([NUMBER] * 1001), deep_rule(401, NUMBER), deep_rule(402, NUMBER), shared_rule(10)]
    return leaves + joined + large + [("plus", deep_rule(400, NUMBER), NUMBER)]


def wrong_many(most):
    """What is no number of names from 0 to most."""
    return any_values() + bad_tuples() + [-HUGE, -1, most + 1, most + 2, HUGE, (), (1,), (0, 1)]


def wrong_sums():
    """What is no sum, or none any more by one of its four parts."""
    rule = ("times", ("name", 0), ("name", 1))
    told = any_values() + bad_tuples() + [0, 7, HUGE, (), (7,), (7, 2, rule), (7, 2, rule, 5, 5), [7, 2, rule, 5]]
    told += [{0: 7, 1: 2, 2: rule, 3: 5}, ((7, 2, rule, 5),), (2, 7, rule, 5)]
    told += [(p, 2, rule, 1) for p in wrong_primes()]
    told += [(7, many, NUMBER, 5) for many in wrong_many(10)] + [(7, 1, rule, 5), (7, 0, rule, 5)]
    told += [(7, 2, wrong, 5) for wrong in wrong_rules(7, 2)]
    told += [(7, 2, rule, claim) for claim in wrong_numbers(7)]
    told += [(7, 2, power_rule(31), 5), (7, 2, power_rule(64), 5), (7, 2, ("plus", power_rule(31), rule), 5)]
    told += [(7, 1, ("times", power_rule(16), power_rule(15)), 5), (5, 1, ("minus", NUMBER, power_rule(31)), 1)]
    return told


def wrong_draws(p, many):
    """What are no draws of just so many numbers."""
    lengths = [length for length in (0, 1, 2, 3, 4, 9, 10, 11, 30) if length != many]
    told = [value for value in any_values() + bad_tuples() + [0, 1, p, HUGE, (p,) * many, [1] * many] if value != ()]
    if many > 0:
        told += [(1,) * (many - 1) + (wrong,) for wrong in wrong_numbers(p)]
    return told + [(1,) * length for length in lengths]


def wrong_answerers(p, many):
    """What is no answerer for a sum of so many names, two at least."""
    line = (1, 2)
    told = any_values() + bad_tuples() + [0, 1, HUGE, (), ("",), ("Plain",), ("worst",), ("by",), (None,), (("plain",),)]
    told += ["plain", "best", ["plain"], ["best"], {"plain": ()}, ("plain", ()), ("best", ()), ("even", None)]
    told += [("plain", "best"), ("by", (), ()), ("by", None), ("by", []), ("by", {}), ("by", ""), ("by", 1), ("BY", ())]
    told += [["by", ()], ("by", [((), line)]), ("by", {(): line}), ("by", ((), line)), ("best", (((), line),))]
    pairs = [(), ((),), ((), line, ()), [(), line], ((), [1, 2]), ([], line), (1, line), (None, line), line, "ab"]
    pairs += [((), wrong) for wrong in wrong_lines(p)] + [((wrong,), line) for wrong in wrong_numbers(p)]
    pairs += [((1,) * many, line), ((1,) * (many + 1), line), (line, ())[::-1] + (line,), {(): line}, {0: (), 1: line}]
    told += [("by", (pair,)) for pair in pairs if pair != ((), ())]
    told += [("by", (((), line), pair)) for pair in pairs]
    told += [("by", (((), line), ((), line))), ("by", (((), line), ((), (1,)))), ("by", (((1,), line), ((), line)))]
    told += [("by", (((1,), line), ((1,), line))), ("by", (((2,), line), ((1,), line)))]
    told += [("by", (((0,), line), ((1,), line), ((0,), line))), ("by", (((0,), line), ((2,), line), ((1,), line)))]
    return told


def wrong_texts():
    """What is no text."""
    return [value for value in any_values() + bad_tuples() if not isinstance(value, str)] + [
        0, 1, HUGE, b"line 1", (), ("line 1",), ["line 1", "draw 1"],
    ]


YES = ("yes",)


def shared_form(times):
    """A form of few objects that has 2 ** (times + 1) - 1 tuples (beware of showing great ones)."""
    form = YES
    for _ in range(times):
        form = ("and", form, form)
    return form


def nots(times, leaf):
    """So many nots ahead of a leaf."""
    form = leaf
    for _ in range(times):
        form = ("not", form)
    return form


def wrong_names():
    """What are no names of forms."""
    bad = ["", "A", "a1", "1", "a b", " a", "a ", "aB", "a_b", "_", "a-b", "\u00e4", "\u0430", "\uff41", "abcdefghi", "a\n",
           "aaaaaaaaaaaa", "yes", "no", "not", "and", "or", "xor", None, True, 0, 1, b"a", ["a"], ("a",), {"a": "b"}]
    told = [value for value in any_values() if value != ()] + [0, 1, HUGE, "a", "abc", ["a", "b"], {"a": "b"}]
    told += [(name,) for name in bad] + [("a", name) for name in bad] + [(name, "b", "c") for name in bad]
    told += [("a", "a"), ("a", "b", "a"), ("ab", "c", "ab"), tuple("abcdefghijk"), tuple("abcdefghija")]
    return told + [tuple("abcdefghi") + ("and",)]


def wrong_forms(many):
    """What is no tree in so many names."""
    parts = any_values() + bad_tuples() + [
        0, 1, HUGE, (), "yes", ["yes"], ("Yes",), ("maybe",), ("yes", ()), ("yes", YES), ("no", "no"), ("name",),
        ("name", many), ("name", many + 1), ("name", -1), ("name", HUGE), ("name", True), ("name", False),
        ("name", None), ("name", "a"), ("name", "0"), ("name", (0,)), ("name", [0]), ("name", 0, 0), ["name", 0],
        ("not",), ("not", YES, YES), ["not", YES], ("not", "yes"), ("not", ["yes"]), ("and",), ("and", YES), ("or", YES),
        ("and", YES, YES, YES), ("xor", YES, "no"), ["and", YES, YES], ("nand", YES, YES), ("AND", YES, YES), ("", YES),
        (YES, "and", YES), (YES,), ((),), ("", YES, YES), (None, YES, YES), (["and"], YES, YES), ({}, YES), (b"yes",),
        ("number", 1), ("and", {0: YES}, YES), ("or", YES, [YES]), ("yes", "no"), ("xor",), ("or", (YES, YES)), ("(", YES),
    ]
    joined = [("not", part) for part in parts] + [("and", YES, part) for part in parts]
    joined += [("xor", part, ("no",)) for part in parts[::2]] + [("or", nots(5, part), YES) for part in parts[::3]]
    return parts + joined + [nots(200, YES), nots(201, YES), nots(400, YES), shared_form(7), shared_form(8)]


def form_for(many, seed, deep):
    """A tree that looks drawn, with joins of all kinds."""
    kind, item = numbers_for(1000003, seed * 37 + deep, 2)
    if deep == 0 or kind % 9 == 0:
        if many == 0 or item % 7 == 0:
            return ("yes",) if item % 2 else ("no",)
        return ("name", item % many)
    if kind % 9 < 3:
        return ("not", form_for(many, seed * 2 + 1, deep - 1))
    word = ("and", "or", "xor")[kind % 3]
    return (word, form_for(many, seed * 2 + 1, deep - 1), form_for(many, seed * 2 + 2, deep - 1))


def plain_form(form, row):
    """Whether a form is yes at a row, by its words."""
    word = form[0]
    if word in ("yes", "no"):
        return word == "yes"
    if word == "name":
        return row[form[1]] == 1
    parts = [plain_form(part, row) for part in form[1:]]
    if word == "not":
        return not parts[0]
    return {"and": all(parts), "or": any(parts), "xor": parts[0] != parts[1]}[word]


def all_forms(many, deep):
    """All trees in so many names, with so many tuples within one another at most."""
    leaves = [("yes",), ("no",)] + [("name", name) for name in range(many)]
    if deep == 1:
        return leaves
    less = all_forms(many, deep - 1)
    told = leaves + [("not", form) for form in less]
    return told + [(word, one, other) for word in ("and", "or", "xor") for one in less for other in less]


def wrong_vars():
    """What are no vars."""
    told = [value for value in any_values() + bad_tuples() if value != ()]
    told += [0, 1, HUGE, "x", "x2", [("x", 2)], {"x": 2}, ("x", 2), (("x",),), (("x", 2, 3),), (["x", 2],), ("x2",), ((),)]
    told += [((name, 2),) for name in any_values() + ["", "X", "x1", "x y", " x", "x_", "abcdefghi", "yes", "no", "not", "and", "or",
                                                     "xor", 0, b"x", ("x",), "\u00e4"] if name != "x"]
    told += [(("x", bits),) for bits in any_values() + bad_tuples() + [-1, 0, 5, 6, HUGE, "2", (2,)]]
    told += [(("x", 1), ("x", 2)), (("x", 1), ("y", 1), ("x", 1)), tuple((name, 1) for name in "abcdef")]
    told += [(("a", 4), ("b", 4), ("c", 3)), tuple((name, 2) for name in "abcde") + (("f", 1),)]
    return told + [(("a", 3), ("b", 2), ("c", 2), ("d", 2), ("e", 2)), (("a", 4), ("b", 4), ("c", 4))]


def wrong_sayings(given):
    """What is no tree of a saying about so many vars."""
    many = len(given)
    so = ("less", ("whole", 1), ("whole", 2))
    counts = any_values() + bad_tuples() + [
        0, HUGE, (), "x", ("var",), ("var", many), ("var", -1), ("var", True), ("var", None), ("var", "x"), ("var", HUGE),
        ("var", 0, 0), ["var", 0], ("whole",), ("whole", -1), ("whole", 100), ("whole", HUGE), ("whole", True), ("whole", "1"),
        ("whole", 1, 1), ["whole", 1], ("number", 1), ("name", 0), ("add",), ("add", ("whole", 1)), ("yes",), ("no",), so,
        ("add", ("whole", 1), ("whole", 1), ("whole", 1)), ("add", ("whole", 1), 1), ("mul", so, ("whole", 1)),
        ("mul", ("whole", 1), ("yes",)), ["add", ("whole", 1), ("whole", 1)], ("sub", ("whole", 1), ("whole", 1)), ("not", so),
        ("Var", 0), (None, 0), (["var"], 0), ("plus", ("whole", 1), ("whole", 1)), ("+", ("whole", 1), ("whole", 1)),
    ]
    forms = any_values() + bad_tuples() + [
        0, HUGE, (), "yes", ["yes"], ("Yes",), ("yes", ()), ("name", 0), ("var", 0), ("whole", 1), ("add", ("whole", 1), ("whole", 1)),
        ("not",), ("not", so, so), ("not", ("var", 0)), ("not", "yes"), ("and", so), ("and", so, so, so), ("and", so, ("whole", 1)),
        ("or", ("var", 0), so), ("xor", so, "no"), ["and", so, so], ("less",), ("less", ("whole", 1)), ["less", *so[1:]],
        ("less", ("whole", 1), ("whole", 1), ("whole", 1)), ("<", ("whole", 1), ("whole", 1)), ("least", ("whole", 1), ("whole", 2)),
        ("more", ("whole", 1), ("whole", 2)), ("equal", ("whole", 1), ("whole", 2)), ("same", so, so), ("less", so, ("whole", 1)),
        ("most", ("whole", 1), ("yes",)), (None, so, so), ({}, so), (b"yes",), (("yes",),), ((), ()),
    ]
    told = forms + [("not", form) for form in forms[::2]] + [("and", so, form) for form in forms[1::2]]
    told += [("less", count, ("whole", 1)) for count in counts] + [("same", ("whole", 1), count) for count in counts[::2]]
    told += [("most", ("add", ("whole", 1), count), ("whole", 2)) for count in counts[1::2]]
    return told + [nots(400, YES), nots(399, so), shared_form(8), ("less", shared_count(8), ("whole", 1))]


def shared_count(times):
    """A count of few objects that has 2 ** (times + 1) - 1 tuples (beware of showing great ones)."""
    count = ("whole", 1)
    for _ in range(times):
        count = ("add", count, count)
    return count


def program_for(inputs, sizes, seed):
    """A program that looks drawn, with layers of these sizes."""
    layers = []
    ahead = inputs
    for at, size in enumerate(sizes):
        numbers = numbers_for(1000003, seed * 7 + at, 3 * size)
        layers.append(tuple(
            ("+*"[numbers[3 * k] % 2], numbers[3 * k + 1] % ahead, numbers[3 * k + 2] % ahead) for k in range(size)))
        ahead = size
    return (inputs, tuple(layers))


def drawn_programs():
    shapes = (
        (1, (1,)), (1, (2,)), (2, (1,)), (2, (2,)), (4, (1,)), (8, (1,)), (8, (8,)), (1, (8,)), (4, (4,)), (2, (1, 1)),
        (2, (2, 1)), (1, (1, 1, 1)), (4, (2, 1)), (8, (4, 2, 1)), (1, (2, 4, 8)), (2, (4, 1, 2)), (1, (8, 8)), (8, (1, 8)),
        (2, (1, 2, 1, 2, 1, 2)), (4, (4, 4, 4, 4, 4, 4)))
    return [program_for(inputs, sizes, seed) for seed, (inputs, sizes) in enumerate(shapes)]


def plain_run(p, program, inputs):
    """The values of a program's inputs and layers."""
    told = [tuple(inputs)]
    for gates in program[1]:
        last = told[-1]
        told.append(tuple((last[a] + last[b] if sign == "+" else last[a] * last[b]) % p for sign, a, b in gates))
    return told


def bits(size):
    """How many names a table of so many numbers has."""
    return {1: 0, 2: 1, 4: 2, 8: 3, 16: 4, 32: 5, 64: 6, 128: 7, 256: 8, 512: 9, 1024: 10}[size]


def wrong_programs():
    """What is no program."""
    one, two = (("+", 0, 1),), (("+", 0, 1), ("*", 1, 0))
    told = any_values() + bad_tuples() + [0, 1, HUGE, (), (2,), (2, (one,), ()), [2, (one,)], {2: (one,)}, ((one,), 2)]
    told += [(2, ()), (2, one), (2, [one]), (2, {0: one}), (2, None), (2, "layer"), (2, 1), "inputs 2\nlayer 0+1\n"]
    told += [(inputs, (one,)) for inputs in any_values() + bad_tuples() + [-HUGE, -2, 0, 3, 5, 6, 7, 9, 16, HUGE, "2", (2,)]]
    told += [(1, (one,)), (2, (one,) * 7), (1, ((("+", 0, 0),),) * 7), (2, (one, one)), (2, (one, two)), (True, ((("+", 0, 0),),))]
    told += [(2, (gates,)) for gates in any_values() + bad_tuples() + [(), [("+", 0, 1)], {0: 1}, "0+1", 0, ("+", 0, 1)]]
    told += [(2, (one * many,)) for many in (0, 3, 5, 6, 7, 9, 16)]
    bad = [(), ("+",), ("+", 0), ("+", 0, 1, 1), ["+", 0, 1], ("-", 0, 1), ("", 0, 1), ("++", 0, 1), ("+*", 0, 1), (0, "+", 1),
           (None, 0, 1), (1, 0, 1), (["+"], 0, 1), ("plus", 0, 1), ("+", 2, 0), ("+", 0, 2), ("*", -1, 0), ("*", 0, -1),
           ("+", True, 0), ("+", 0, False), ("+", None, 0), ("+", 0, "1"), ("+", (0,), 1), ("+", 0, [1]), ("+", HUGE, 0),
           {"+": 0}, "0+1", None, 0, ("+", {}, 0), (("+",), 0, 1)]
    told += [(2, ((gate,),)) for gate in bad] + [(2, ((("+", 0, 1), gate),)) for gate in bad]
    return told + [(2, (two, (gate,))) for gate in bad] + [(4, (one, (("+", 0, 1),))), (8, (one, two))]


def machine_rows(seed, many):
    """So many rows of a machine's text that look drawn."""
    told = []
    for at in range(many):
        kind, one, other, big = numbers_for(1000003, seed * 11 + at, 4)
        one, other = "abc"[one % 3], "abc"[other % 3]
        number = big if kind % 5 else big % 3
        told.append((
            f"set {one} {number % 1000001}", f"add {one} {other}", f"mul {one} {other}", f"goto {big % 8}",
            f"ifnought {one} {big % 8}", f"add {one} {other}", f"mul {one} {other}", f"ifnought {one} {big % 8}", "halt",
        )[kind % 9])
    return told


def drawn_machines():
    """The texts of machines, some that look drawn and some of each word alone."""
    told = ["".join(row + "\n" for row in machine_rows(seed, 1 + seed % 8)) for seed in range(24)]
    told += ["halt\n", "halt\n" * 8, "goto 0\n", "goto 7\n", "add a b\nhalt\n", "ifnought a 0\nhalt\n", "ifnought c 7\n"]
    told += ["set a 1000000\nset b 0\nset c 10\n", "add a a\ngoto 0\n", "mul c c\nmul c c\nmul b b\n", "add c a\n" * 8]
    told += ["set b 1\nifnought a 5\nmul b a\nadd a c\ngoto 1\n", "halt\nadd a a\n", "goto 2\nhalt\nadd b c\ngoto 1\n"]
    return told


def plain_step(p, rows, standing):
    """The standing behind a standing, by the words of a machine's rows as texts."""
    row, *cells = standing
    words = (rows[row] if row < len(rows) else "halt").split()
    cell = dict(zip("abc", cells))
    after = row + 1
    if words[0] == "set":
        cell[words[1]] = int(words[2])
    elif words[0] == "add":
        cell[words[1]] = cell[words[1]] + cell[words[2]]
    elif words[0] == "mul":
        cell[words[1]] = cell[words[1]] * cell[words[2]]
    elif words[0] == "goto":
        after = int(words[1])
    elif words[0] == "ifnought":
        after = int(words[2]) if cell[words[1]] == 0 else after
    else:
        after = row
    return (0 if after == 8 else after,) + tuple(cell[name] % p for name in "abc")


def plain_stands(p, text, first, many):
    """So many standings of a machine's text, from row 0 on."""
    rows = text.splitlines()
    told = [(0, *first)]
    while len(told) < many:
        told.append(plain_step(p, rows, told[-1]))
    return told


def plain_entries(p, rows, standing):
    """The sixteen entries of a standing with its next one."""
    after = plain_step(p, rows, standing)
    words = (rows[standing[0]] if standing[0] < len(rows) else "halt").split()
    x = standing[1 + "abc".index(words[1])] if words[0] == "ifnought" else 0
    bits = [[int(sign) for sign in f"{row:03b}"] for row in (standing[0], after[0])]
    return (*bits[0], *standing[1:], *bits[1], *after[1:], 1 if x == 0 else 0, pow(x, p - 2, p), x, 0)


def plain_sealed(p, text, first, names):
    """The sixteen columns of the plain run of a machine's text."""
    rows = text.splitlines()
    return tuple(zip(*[plain_entries(p, rows, standing) for standing in plain_stands(p, text, first, 2 ** names)]))


def plain_row_rules(p, text, entries):
    """The values of the fourteen rules of a machine's text at sixteen numbers, by the words of the document."""
    rows = [row.split() for row in text.splitlines()]
    rows += [["halt"]] * (8 - len(rows))
    cells = dict(zip("abc", entries[3:6]))
    after = dict(zip("abc", entries[9:12]))
    is_nought, inv, x = entries[12:15]

    def f(told):
        return plain_spread(p, [told(at, row) for at, row in enumerate(rows)], entries[:3])
    told = [bit * bit - bit for bit in entries[:3] + entries[6:9]]
    told.append(x - sum(f(lambda at, row: int(row[:2] == ["ifnought", name])) * cells[name] for name in "abc"))
    told += [x * inv - (1 - is_nought), x * is_nought, is_nought * is_nought - is_nought]
    for name in "abc":
        made = f(lambda at, row: int(row[:2] != ["set", name])) * cells[name]
        made += f(lambda at, row: int(row[2]) % p if row[:2] == ["set", name] else 0)
        for other in "abc":
            made += f(lambda at, row: int(row == ["add", name, other])) * cells[other]
            made += f(lambda at, row: int(row == ["mul", name, other])) * (cells[other] * cells[name] - cells[name])
        told.append(after[name] - made)

    def follows(at, row):
        return int(row[1]) if row[0] == "goto" else at if row[0] == "halt" else (at + 1) % 8
    next_row = 4 * entries[6] + 2 * entries[7] + entries[8] - f(follows)
    jump = f(lambda at, row: int(row[2]) - follows(at, row) if row[0] == "ifnought" else 0)
    told.append(next_row - jump * is_nought)
    return tuple(number % p for number in told)


def wrong_sealed(p, names):
    """What is no sealed run by p; what is bent has so many names."""
    size = 2 ** names
    table = tuple(at % p for at in range(size))
    right = (table,) * 16
    told = any_values() + bad_tuples() + [0, HUGE, (), table, list(right), dict(enumerate(right)), right[:15], right + (table,)]
    told += [right[:1], ((1,) * 32,) * 16, ((1,) * 1024,) * 16, ((1, 2, 3),) * 16, ((),) * 16, (1,) * 16, "0123456789abcdef"]
    others = [(1,) * other for other in (1, 2, 4, 8, 16, 32) if other != size]
    for wrong in any_values() + others + [(), list(table), table + (1,), table[:-1] + (p,), table[:-1] + (-1,), table[:-1] + (True,)]:
        told += [(wrong,) + right[1:], right[:15] + (wrong,), right[:7] + (wrong,) + right[8:]]
    return told


def wrong_great_primes():
    """What is no prime for machines."""
    return wrong_primes() + [5, 7]


def wrong_machines():
    """What is no machine."""
    halt = ("halt",)
    told = any_values() + bad_tuples() + [0, 1, HUGE, (), "halt\n", (halt,), (halt,) * 7, (halt,) * 9, [halt] * 8, (halt,) * 16]
    rows = any_values() + bad_tuples() + [
        0, (), "halt", ["halt"], ("Halt",), ("",), ("halt", 0), ("halt", ()), ("stop",), ("set",), ("set", 0), ("set", 0, 1, 2),
        ["set", 0, 1], ("set", 3, 1), ("set", -1, 1), ("set", 0, -1), ("set", 0, 1000001), ("set", 0, HUGE),
        ("set", True, 1), ("set", 0, True), ("set", "a", 1), ("set", 0, "1"), ("set", None, 1), ("set", 0, None),
        ("set", (0,), 1), ("set", 0, (1,)), ("add", 0), ("add", 0, 3), ("add", 3, 0), ("add", 0, -1), ("add", 0, False),
        ("add", "a", "b"), ("add", 0, 1, 2), ("mul", 0, 3), ("mul", 3, 0), ("mul", 0), ("mul", False, 0), ("mul", 0, [1]),
        ("goto",), ("goto", 8), ("goto", -1), ("goto", True), ("goto", "1"), ("goto", None), ("goto", 0, 1), ("goto", (1,)),
        ("ifnought", 0), ("ifnought", 3, 0), ("ifnought", 0, 8), ("ifnought", 0, -1), ("ifnought", 0, True),
        ("ifnought", True, 0), ("ifnought", "a", 1), ("ifnought", 0, 1, 2), (halt,), ("sub", 0, 1), (None, 0, 1),
        (["set"], 0, 1), ({}, 0), (b"halt",), (("halt",),), {"halt": ()}, ("set a 1",), ("goto 1",),
    ]
    told += [(row,) + (halt,) * 7 for row in rows] + [(halt,) * 7 + (row,) for row in rows]
    return told + [(halt,) * 3 + (row,) + (halt,) * 4 for row in rows[::3]]


def wrong_triples_of(p):
    """What is no triple of numbers."""
    told = any_values() + bad_tuples() + [0, 1, HUGE, (), (1, 2), (1, 2, 3, 4), [1, 2, 3], {1: 1, 2: 2, 3: 3}, "123"]
    told += [((1, 2, 3),)]
    for wrong in wrong_numbers(p):
        told += [(wrong, 1, 2), (1, wrong, 2), (1, 2, wrong)]
    return told


def power_rule(degree):
    """The first name, so many times a factor, by twos, so that it stays flat."""
    if degree == 0:
        return NUMBER
    if degree == 1:
        return ("name", 0)
    return ("times", power_rule(degree // 2), power_rule(degree - degree // 2))


def rule_for(p, many, seed, deep):
    """A rule that looks drawn, with joins of all kinds, its leaves deep within."""
    kind, first, second, names = numbers_for(1000003, seed * 31 + deep, 4)
    if deep == 0 or kind % 7 == 0:
        return leaf_for(p, many, kind, first, second, names)
    word = ("plus", "minus", "times")[kind % 3]
    return (word, rule_for(p, many, seed * 2 + 1, deep - 1), rule_for(p, many, seed * 2 + 2, deep - 1))


def leaf_for(p, many, kind, first, second, names):
    def place(k):
        return ("name", (first + k) % many) if many > 0 and (second >> k) % 3 > 0 else ("number", (first + k) % p)
    if names % 3 == 0:
        size = names % 4
        return ("table", numbers_for(p, second, 2 ** size), tuple(place(k) for k in range(size)))
    return place(0)


def plain_rule(p, rule, point):
    """The value of a rule at a point, by its words."""
    word = rule[0]
    if word == "number":
        return rule[1]
    if word == "name":
        return point[rule[1]]
    if word == "table":
        return plain_spread(p, rule[1], tuple(plain_rule(p, place, point) for place in rule[2]))
    one, other = plain_rule(p, rule[1], point), plain_rule(p, rule[2], point)
    return {"plus": one + other, "minus": one - other, "times": one * other}[word] % p


def plain_degrees(many, rule):
    """The told degrees of a rule, by its words."""
    word = rule[0]
    if word in ("number", "name", "table"):
        places = rule[2] if word == "table" else (rule,)
        return tuple(sum(1 for place in places if place == ("name", name)) for name in range(many))
    one, other = plain_degrees(many, rule[1]), plain_degrees(many, rule[2])
    return tuple(a + b if word == "times" else max(a, b) for a, b in zip(one, other))


def plain_rows_sum(p, many, rule, ahead):
    """The sum of a rule's values, the first names put to numbers, over all rows of the others."""
    return sum(plain_rule(p, rule, ahead + row) for row in bits_rows(many - len(ahead))) % p


def bits_rows(names):
    """All rows in ascending order, by another road than the program's."""
    return list(product((0, 1), repeat=names))


def numbers_for(p, seed, many):
    """So many numbers that look drawn and are the same each time."""
    told = []
    state = seed * 2654435761 % 4294967296 + 12345
    for _ in range(many):
        state = (state * 1664525 + 1013904223) % 4294967296
        told.append((state >> 3) % p)
    return tuple(told)


def line_for(p, seed, many):
    """A line of so many numbers that looks drawn."""
    told = numbers_for(p, seed, many)
    return told[:-1] + (told[-1] or 1,) if told else ()


def plain_value(p, line, place):
    return sum(number * pow(place, k, p) for k, number in enumerate(line)) % p


def plain_trim(numbers):
    told = list(numbers)
    while told and told[-1] == 0:
        told.pop()
    return tuple(told)


def plain_sum(p, one, other, factor):
    longest = max(len(one), len(other))
    left = list(one) + [0] * (longest - len(one))
    right = list(other) + [0] * (longest - len(other))
    return plain_trim((a + factor * b) % p for a, b in zip(left, right))


def plain_product(p, one, other):
    told = {}
    for i, a in enumerate(one):
        for j, b in enumerate(other):
            told[i + j] = told.get(i + j, 0) + a * b
    return plain_trim(told[k] % p for k in sorted(told))


def plain_weight(p, row, point):
    weight = 1
    for bit, number in zip(row, point):
        weight = weight * (number if bit == 1 else 1 - number) % p
    return weight


def plain_spread(p, table, point):
    rows = bits_rows(len(point))
    return sum(entry * plain_weight(p, row, point) for entry, row in zip(table, rows)) % p


def all_lines(p, degree):
    """All lines of at most a degree."""
    return [plain_trim(numbers) for numbers in product(range(p), repeat=degree + 1)]


def most_passes(p, degrees, ahead, judge, state=lambda draws: draws):
    """At how many of all rows of draws whoever answers best passes, by trying all lines in each round.

    judge(lines, draws) tells as [13] does; so many numbers are drawn ahead of the first line. What the judge hears
    later may hang on state(draws), of the draws so far, and on the claim so far, but on nothing else."""
    known = {}
    longest = ahead + len(degrees)

    def rest(draws):
        return draws + (0,) * (longest - len(draws))

    def passes(lines, draws, claim):
        done = len(lines)
        if len(draws) < ahead:
            return sum(passes(lines, draws + (draw,), claim) for draw in range(p))
        if done == len(degrees):
            return 1 if judge(lines, draws) == ("passed",) else 0
        key = (done, state(draws), claim)
        if key not in known:
            known[key] = max([0] + [
                sum(passes(lines + (line,), draws + (draw,), plain_value(p, line, draw)) for draw in range(p))
                for line in all_lines(p, degrees[done]) if heard(lines + (line,), rest(draws))])
        return known[key]

    def heard(lines, draws):
        told = judge(lines, draws)
        return told == ("passed",) or told[1] >= len(lines)
    return passes((), (), None)


class PointCase(unittest.TestCase):
    """A test case that compares kinds too and sees to it that nothing handed in is changed."""

    def tells(self, expected, function, *handed):
        before = repr(handed)
        told = function(*handed)
        self.assertEqual(exact(told), exact(expected), (function.__name__, before[:300]))
        again = function(*handed)
        self.assertEqual(exact(again), exact(expected), ("again", function.__name__, before[:300]))
        self.assertEqual(repr(handed), before)
        return told

    def fails(self, kind, fields, function, *handed):
        before = repr(handed)
        for _ in range(2):
            caught = None
            told = None
            try:
                told = function(*handed)
            except errors.PointError as error:
                caught = error
            about = (function.__name__, before[:300], kind.__name__, repr(told)[:300])
            self.assertIs(type(caught), kind, about)
            for field, value in fields.items():
                self.assertEqual(exact(getattr(caught, field)), exact(value), about)
            self.assertEqual(repr(handed), before)

    def first_errors(self, calls):
        """Of several wrong arguments the first one is told.

        A call is (function, right arguments, for each argument wrong values and the name of their error, if any)."""
        for function, right, wrong in calls:
            self.assertEqual(len(right), len(wrong), function.__name__)
            for many in range(1, len(right) + 1):
                for which in combinations(range(len(right)), many):
                    first = wrong[which[0]][1]
                    if first is not None:
                        self.first_error(function, right, wrong, which, getattr(errors, first))

    def first_error(self, function, right, wrong, which, kind):
        for turn in range(max(len(wrong[k][0]) for k in which)):
            handed = list(right)
            for k in which:
                values = wrong[k][0]
                handed[k] = values[(turn + k) % len(values)]
            self.fails(kind, {}, function, *handed)

    def same_backward(self, calls):
        """Pairs (function, arguments) have equal answers in whatever order they are called."""
        first = [exact(function(*handed)) for function, handed in calls]
        backward = [exact(function(*handed)) for function, handed in reversed(calls)]
        self.assertEqual(first, list(reversed(backward)))

    def nothing_left_behind(self, calls):
        """Calls that raise errors change no later answer; calls are told as in first_errors."""
        for function, right, wrong in calls:
            before = exact(function(*right))
            for k, (values, _) in enumerate(wrong):
                for value in values:
                    handed = list(right)
                    handed[k] = value
                    try:
                        function(*handed)
                    except errors.PointError:
                        pass
            self.assertEqual(exact(function(*right)), before)
