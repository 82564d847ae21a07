"""Sayings about small numbers: their texts and trees, their rules, and the claims that are made of them."""

from pointsenough.errors import BadMarked, BadRule, BadSaying, BadSum, BadValues, BadVars, NoSaying, TooGreat
from pointsenough.forms import (
    BINDS, BINDS_MOST, JOINS, LENGTHS, MOST_BRACKETS, MOST_SIGNS, fits_name, form_folded, joined_text, part_bit,
    part_rule, part_text, settle)
from pointsenough.joins import from_left
from pointsenough.lines import line_through
from pointsenough.marks import MARKS, is_marked
from pointsenough.numbers import in_bounds, need_number, need_prime
from pointsenough.rules import fits_rule
from pointsenough.sums import is_sum
from pointsenough.tables import MOST_NAMES
from pointsenough.texts import FIGURES, need_text, number_in, words_in

MOST_VARS = 5
MOST_BITS = 4
GREATEST_WHOLE = 99
MOST_TUPLES = 400
MOST_PLACES = 400
COMPARISONS = {"<": "less", "<=": "most", "=": "same"}
RECKONINGS = {"+": "add", "*": "mul"}
SIGNS = {"less": "<", "most": "<=", "same": "=", "add": "+", "mul": "*"}
# What a tree may begin with where it is a saying, or a comparison's side, and what the trees below it are then.
SAYINGS = ("yes", "no", "not", "and", "or", "xor", "less", "most", "same")
COUNTS = ("var", "whole", "add", "mul")
COMPARED = ("less", "most", "same")
BRACKETS = ("(", "[")


class SayingReader:
    """What is read of a saying so far: its side is "" among forms, else that of the comparison that is read."""

    def __init__(self, given):
        self.names = [name for name, _ in given]
        self.trees = []
        self.waiting = []
        self.side = ""
        self.begins = True

    def read(self, word):
        """Read a word; whether it can stand there."""
        return self.read_first(word) if self.begins else self.read_behind(word)

    def read_first(self, word):
        """Read a word where a form or a comparison's side begins; whether it can stand there."""
        among_forms = self.side == ""
        if among_forms and word in ("yes", "no"):
            self.trees.append((word,))
            self.begins = False
            return True
        if among_forms and word == "not":
            self.waiting.append(word)
            return True
        if word == "[" or among_forms and word == "(":
            return self.read_bracket(word)
        return self.read_count(word)

    def read_bracket(self, bracket):
        """Read a bracket that begins; whether it can stand within those that are there."""
        if len(self.brackets()) == MOST_BRACKETS:
            return False
        self.waiting.append(bracket)
        if bracket == "[" and self.side == "":
            self.side = "left"
        return True

    def read_count(self, word):
        """Read a var or a number; whether the word is one."""
        if word in self.names:
            self.trees.append(("var", self.names.index(word)))
        elif word[0] in FIGURES and number_in(word, GREATEST_WHOLE) is not None:
            self.trees.append(("whole", number_in(word, GREATEST_WHOLE)))
        else:
            return False
        if self.side == "":
            self.side = "left"
        self.begins = False
        return True

    def read_behind(self, word):
        """Read a word behind a form or a comparison's side; whether it can stand there."""
        if self.side != "" and word in RECKONINGS:
            self.let_wait(RECKONINGS[word], self.side)
            return True
        if word == "]":
            return self.close("[", self.side)
        if self.brackets()[-1:] == ["["]:
            return False
        if self.side == "left" and word in COMPARISONS:
            self.let_wait(COMPARISONS[word], "right")
            return True
        if self.side != "left" and word in JOINS:
            self.let_wait(word, "")
            return True
        return self.side != "left" and word == ")" and self.close("(", "")

    def let_wait(self, word, side):
        """Let a word wait for what it joins with all that is read."""
        settle(self.trees, self.waiting, BINDS[word])
        self.waiting.append(word)
        self.side = side
        self.begins = True

    def close(self, bracket, side):
        """Close a bracket; whether it is the last one that is there."""
        if self.brackets()[-1:] != [bracket]:
            return False
        settle(self.trees, self.waiting, 0)
        self.waiting.pop()
        self.side = side
        return True

    def brackets(self):
        """The list of the brackets that are not closed."""
        return [word for word in self.waiting if word in BRACKETS]

    def whole_tree(self):
        """The tree of all that is read, None if more must stand behind it."""
        if self.begins or self.side == "left" or self.brackets():
            return None
        settle(self.trees, self.waiting, 0)
        return self.trees[0]


def saying_of(given, text):
    """The tree of a saying's text."""
    need_vars(given)
    need_text(text)
    if len(text) > MOST_SIGNS:
        raise BadSaying(MOST_SIGNS)
    reader = SayingReader(given)
    for word, start in words_in(text):
        if not reader.read(word):
            raise BadSaying(start)
    tree = reader.whole_tree()
    if tree is None:
        raise BadSaying(len(text))
    return tree


def saying_text(given, saying):
    """The text of a tree, with single blanks and no bracket that isn't needed."""
    need_vars(given)
    need_saying(given, saying)

    def told(part, below):
        word = part[0]
        if word == "var":
            return given[part[1]][0], BINDS_MOST
        if word == "whole":
            return str(part[1]), BINDS_MOST
        return joined_text(word, below, SIGNS[word], "[]") if word in SIGNS else part_text(part, below)
    return form_folded(saying, told)[0]


def saying_holds(given, saying, values):
    """Whether a saying is so for values of its vars."""
    need_vars(given)
    need_saying(given, saying)
    if not isinstance(values, tuple) or len(values) != len(given):
        raise BadValues()
    if not all([in_bounds(value, 0, greatest(bits)) for value, (_, bits) in zip(values, given)]):
        raise BadValues()

    def told(part, below):
        word = part[0]
        if word == "var":
            return values[part[1]]
        if word == "whole":
            return part[1]
        if word in ("add", "mul"):
            return reckoned(word, below[0], below[1])
        return compared(word, below[0] - below[1]) if word in COMPARED else part_bit(part, below)
    return form_folded(saying, told) == 1


def saying_rule(p, given, saying):
    """The rule of a saying, in the bits of its vars."""
    need_prime(p)
    need_vars(given)
    need_saying(given, saying)
    rule = rule_of_saying(p, given, saying)
    if not fits_rule(p, bits_of_all(given), rule):
        raise BadRule()
    return rule


def saying_sum(p, given, saying, claim):
    """The sum that claims for how many values of the vars a saying is so."""
    need_prime(p)
    need_vars(given)
    need_saying(given, saying)
    need_number(p, claim)
    claimed = (p, bits_of_all(given), rule_of_saying(p, given, saying), claim)
    if not is_sum(claimed):
        raise BadSum()
    return claimed


def saying_marked(p, given, marks, saying, claim):
    """The claim with marks of a saying, each bit having its var's mark."""
    need_prime(p)
    need_vars(given)
    if not isinstance(marks, tuple) or len(marks) != len(given) or not all([mark in MARKS for mark in marks]):
        raise BadMarked()
    need_saying(given, saying)
    need_number(p, claim)
    bit_marks = [mark for mark, (_, bits) in zip(marks, given) for _ in range(bits)]
    marked = (p, tuple(bit_marks), rule_of_saying(p, given, saying), claim)
    if not is_marked(marked):
        raise BadMarked()
    return marked


def need_vars(given):
    """Raise BadVars for any value that is no vars."""
    if not isinstance(given, tuple) or len(given) > MOST_VARS or not all([fits_var(pair) for pair in given]):
        raise BadVars()
    if len({name for name, _ in given}) < len(given) or bits_of_all(given) > MOST_NAMES:
        raise BadVars()


def fits_var(pair):
    """Whether any value is a pair of a name and a number of bits."""
    return isinstance(pair, tuple) and len(pair) == 2 and fits_name(pair[0]) and in_bounds(pair[1], 1, MOST_BITS)


def bits_of_all(given):
    """How many bits all vars have."""
    return sum([bits for _, bits in given])


def greatest(bits):
    """The greatest number of so many bits."""
    return (1 << bits) - 1


def need_saying(given, saying):
    """Raise NoSaying for any value that is no tree of a saying."""
    if not fits_saying(given, saying):
        raise NoSaying()


def fits_saying(given, saying):
    """Whether any value is a tree of a saying."""
    waiting = [(SAYINGS, saying)]
    seen = 0
    while waiting:
        words, part = waiting.pop()
        seen += 1
        if seen > MOST_TUPLES or not fits_part(given, words, part):
            return False
        if part[0] not in ("var", "whole"):
            below = COUNTS if part[0] in SIGNS else SAYINGS
            waiting.extend([(below, item) for item in part[1:]])
    return True


def fits_part(given, words, part):
    """Whether any value is a tuple of a tree that begins with one of the words, what it joins being left aside."""
    if not isinstance(part, tuple) or not part or part[0] not in words:
        return False
    if part[0] in ("var", "whole"):
        most = len(given) - 1 if part[0] == "var" else GREATEST_WHOLE
        return len(part) == 2 and in_bounds(part[1], 0, most)
    # A comparison or a reckoning joins two trees as "and" does.
    return len(part) == LENGTHS.get(part[0], 3)


def reckoned(word, one, other):
    """What a reckoning makes of two whole numbers."""
    return one + other if word == "add" else one * other


def compared(word, difference):
    """1 if a comparison of two whole numbers of this difference is so, else 0."""
    if word == "less":
        return 1 if difference < 0 else 0
    if word == "most":
        return 1 if difference <= 0 else 0
    return 1 if difference == 0 else 0


def rule_of_saying(p, given, saying):
    """The rule of a saying, which may be too large or too deep; TooGreat if a comparison has too many places."""
    def told(part, below):
        word = part[0]
        if word == "var":
            return var_told(p, given, part[1])
        if word == "whole":
            return ("number", part[1] % p), part[1], part[1]
        if word in ("add", "mul"):
            return reckoned_rule(word, below[0], below[1])
        return compared_rule(p, word, below[0], below[1]) if word in COMPARED else part_rule(p, part, below)
    return form_folded(saying, told)


def var_told(p, given, index):
    """The triple (rule, least, greatest) of a var."""
    start = bits_of_all(given[:index])
    bits = given[index][1]
    parts = []
    for at, shift in enumerate(reversed(range(bits))):
        parts.append(("times", ("number", (1 << shift) % p), ("name", start + at)))
    return from_left("plus", parts), 0, greatest(bits)


def reckoned_rule(word, one, other):
    """The triple (rule, least, greatest) of two such triples, added or multiplied."""
    rule = ("plus" if word == "add" else "times", one[0], other[0])
    # There is nothing below 0, so products are least and greatest where both factors are.
    return rule, reckoned(word, one[1], other[1]), reckoned(word, one[2], other[2])


def compared_rule(p, word, one, other):
    """The rule of a comparison of two triples (rule, least, greatest)."""
    low, high = one[1] - other[2], one[2] - other[1]
    most = min(p - 1, MOST_PLACES)
    if high - low > most:
        raise TooGreat(most)
    line = line_through(p, [(place % p, compared(word, place)) for place in range(low, high + 1)])
    difference = ("minus", one[0], other[0])
    rule = ("number", line[-1] if line else 0)
    for number in reversed(line[:-1]):
        rule = ("plus", ("number", number), ("times", difference, rule))
    return rule
