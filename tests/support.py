"""What the tests share: strict comparison, wrong values of each sort, and plain reckoning to compare with."""

import unittest
from itertools import product

from pointsenough import errors

BIG = 2 ** 31 - 1
HUGE = 10 ** 399


def nested(deep, make):
    value = 1
    for _ in range(deep):
        value = make(value)
    return value


def exact(told):
    """A value with the kinds of all its parts, so that 1, True, [1] and (1,) are all unlike."""
    if isinstance(told, (tuple, list)):
        return (type(told).__name__, [exact(part) for part in told])
    return (type(told).__name__, told)


def any_values():
    """One or more of each sort of any value that is neither a plain integer nor a tuple of such."""
    return [
        None, True, False, "", "0", "1", "5", "7", "x", "1 2", "(1, 2)",
        [], [0], [1], [5], [1, 2], [(1, 2)], [[1, 2], [3, 4]], [None],
        {}, {0: 1}, {1: 2}, {"a": [1, 2]}, {(1, 2): {"b": None}}, {0: (1, 2), 1: (3, 4)},
        nested(400, lambda value: (value,)), nested(400, lambda value: [value]), nested(400, lambda value: {0: value}),
    ]


def bad_tuples():
    """Tuples with an item that is no number by any p."""
    return [
        (None,), (True,), (False,), ("1",), ("",), ([],), ([1],), ({},), ((),), ((1,),), (-1,), (HUGE,), (-HUGE,),
        (1, None), (None, 1), (1, True), (True, 1), (0, False), (False, 0), (1, "1"), ("1", 1), (1, [1]), ([1], 1),
        (1, -1), (-1, 1), (1, (1,)), ((1,), 1), (1, HUGE), (HUGE, 1), (1, 2, 3, True), (1, {}, 2, 3), (True, True),
        (False, True), (BIG, 1), (1, BIG),
    ]


def wrong_primes():
    return any_values() + bad_tuples() + [
        -HUGE, -7, -5, -1, 0, 1, 2, 3, 4, 6, 8, 9, 15, 25, 49, 91, 121, 341, 561, 1105, 2047, 3277, 10001, 1373653,
        25326001, 161304001, 46337 * 46337, 46327 * 46337, 2 ** 31 - 2, 2 ** 31, 2 ** 31 + 11, 3215031751, 2 ** 61 - 1,
        HUGE, (), (5,), (7, 11),
    ]


def wrong_numbers(p):
    return any_values() + bad_tuples() + [-HUGE, -p, -1, p, p + 1, 2 * p, HUGE, (), (1,), (1, 2)]


def wrong_times():
    return any_values() + bad_tuples() + [-HUGE, -2, -1, (), (1,)]


def wrong_integers(low, high):
    return any_values() + bad_tuples() + [-HUGE, low - 2, low - 1, high + 1, high + 2, HUGE, (), (1,), (1, 2)]


def wrong_lines(p):
    return any_values() + bad_tuples() + [
        -1, 0, 1, 2, p, HUGE, (0,), (0, 0), (1, 0), (0, 1, 0), (1, 2, 3, 0, 0), (p,), (1, p), (p, 1), (1, p, 1),
        (1, p + 1), (-p,), (1,) * 201, (0,) * 200 + (1,), (1,) * 199 + (0,), (1,) * 200 + (0,), (1,) * 199 + (p,),
        (0,) * 200, (1,) * 1000,
    ]


def wrong_pairs(p):
    return any_values() + bad_tuples() + [
        0, 1, HUGE, (1,), (1, 2), ((),), ((1,),), ((1, 2, 3),), ([1, 2],), ("12",), ({1: 2, 3: 4},), ((1, 2), None),
        ((1, 2), (3,)), ((1, 2), [3, 4]), ((1, 2), (3, 4, 5)), ((1, p),), ((p, 1),), ((-1, 1),), ((1, -1),),
        ((True, 1),), ((1, True),), ((0, False),), ((None, 1),), ((1, "1"),), ((1, (2,)),), ((1, 2), (3, p)),
        ((1, 2), (p, 3)), ((1, 2), (p + 1, 3)), ((1, 2), (1, 2), (1, p)), ((1, 2), (1, 3), 4), ((1, 1),) * 61,
        tuple((place, 1) for place in range(61)), ((1, 2), 3, (4, 5)), (((1, 2),),),
    ]


def wrong_places(p):
    return any_values() + bad_tuples() + [
        0, 1, HUGE, (p,), (1, p), (p, 1), (-p, 1), (1, p + 1), (1,) * 61, (0,) * 61, (1,) * 59 + (p,), ((1, 2),),
    ]


def wrong_tables(p):
    sizes = (0, 3, 5, 6, 7, 9, 12, 15, 1000, 1023, 1025, 1536, 2047, 2048, 4096)
    return any_values() + bad_tuples() + [(1,) * size for size in sizes] + [
        0, 1, 2, HUGE, (p,), (1, p), (p, 1), (1, 2, 3, p), (1, 2, p + 1, 3), (-p, 0), (1,) * 1023 + (p,), ((1, 2),),
    ]


def wrong_rows():
    return any_values() + bad_tuples() + [
        0, 1, HUGE, (2,), (0, 2), (2, 0), (1, 3), (0,) * 11, (1,) * 11, (0,) * 12, (1,) * 9 + (2,), ((0, 1),),
    ]


def wrong_points(p, most):
    return any_values() + bad_tuples() + [
        0, 1, HUGE, (p,), (1, p), (p, 1), (1, p + 1), (-p,), (1,) * (most + 1), (0,) * (most + 2), (1,) * 200,
        (1,) * (most - 1) + (p,), ((1, 2),),
    ]


def bits_rows(names):
    """All rows in ascending order, by another road than the program's."""
    return list(product((0, 1), repeat=names))


def numbers_for(p, seed, many):
    """So many numbers that look drawn and are the same each time."""
    told = []
    state = seed * 2654435761 % 4294967296 + 12345
    for _ in range(many):
        state = (state * 1664525 + 1013904223) % 4294967296
        told.append((state >> 3) % p)
    return tuple(told)


def line_for(p, seed, many):
    """A line of so many numbers that looks drawn."""
    told = numbers_for(p, seed, many)
    return told[:-1] + (told[-1] or 1,) if told else ()


def plain_value(p, line, place):
    return sum(number * pow(place, k, p) for k, number in enumerate(line)) % p


def plain_trim(numbers):
    told = list(numbers)
    while told and told[-1] == 0:
        told.pop()
    return tuple(told)


def plain_sum(p, one, other, factor):
    longest = max(len(one), len(other))
    left = list(one) + [0] * (longest - len(one))
    right = list(other) + [0] * (longest - len(other))
    return plain_trim((a + factor * b) % p for a, b in zip(left, right))


def plain_product(p, one, other):
    told = {}
    for i, a in enumerate(one):
        for j, b in enumerate(other):
            told[i + j] = told.get(i + j, 0) + a * b
    return plain_trim(told[k] % p for k in sorted(told))


def plain_weight(p, row, point):
    weight = 1
    for bit, number in zip(row, point):
        weight = weight * (number if bit == 1 else 1 - number) % p
    return weight


def plain_spread(p, table, point):
    rows = bits_rows(len(point))
    return sum(entry * plain_weight(p, row, point) for entry, row in zip(table, rows)) % p


class PointCase(unittest.TestCase):
    """A test case that compares kinds too and sees to it that nothing handed in is changed."""

    def tells(self, expected, function, *handed):
        before = repr(handed)
        told = function(*handed)
        self.assertEqual(exact(told), exact(expected), (function.__name__, before[:300]))
        again = function(*handed)
        self.assertEqual(exact(again), exact(expected), ("again", function.__name__, before[:300]))
        self.assertEqual(repr(handed), before)
        return told

    def fails(self, kind, fields, function, *handed):
        before = repr(handed)
        for _ in range(2):
            caught = None
            told = None
            try:
                told = function(*handed)
            except errors.PointError as error:
                caught = error
            about = (function.__name__, before[:300], kind.__name__, repr(told)[:300])
            self.assertIs(type(caught), kind, about)
            for field, value in fields.items():
                self.assertEqual(exact(getattr(caught, field)), exact(value), about)
            self.assertEqual(repr(handed), before)
