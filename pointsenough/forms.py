"""Forms: texts and trees of yes/no names, their solutions, and sums that count these."""

from pointsenough.errors import BadForm, BadMany, BadNames, BadSum, NoForm
from pointsenough.numbers import in_bounds, inverse_of, need_number, need_prime
from pointsenough.sums import is_sum
from pointsenough.tables import MOST_NAMES, row_of
from pointsenough.texts import LETTERS, need_text, words_in

MOST_LETTERS = 8
KEYS = ("yes", "no", "not", "and", "or", "xor")
JOINS = ("and", "or", "xor")
# How much each word of a tree binds, those of sayings too, which are forms over comparisons; leaves bind most of all.
BINDS = {"or": 1, "xor": 1, "and": 2, "not": 3, "less": 4, "most": 4, "same": 4, "add": 5, "mul": 6}
BINDS_MOST = 7
# The words of a tree behind which no trees stand, but an index or an integer.
LEAVES = ("name", "var", "whole")
# How many items the tuples of a tree have.
LENGTHS = {"yes": 1, "no": 1, "name": 2, "not": 2, "and": 3, "or": 3, "xor": 3}
MOST_TUPLES = 200
MOST_SIGNS = 400
MOST_BRACKETS = 100


def form_of(names, text):
    """The tree of a form's text."""
    need_names(names)
    need_text(text)
    if len(text) > MOST_SIGNS:
        raise BadForm(MOST_SIGNS)
    trees = []
    waiting = []
    begins = True
    for word, start in words_in(text):
        leaf = leaf_of(names, word)
        if begins and leaf is not None:
            trees.append(leaf)
            begins = False
        elif begins and (word == "not" or word == "(" and waiting.count("(") < MOST_BRACKETS):
            waiting.append(word)
        elif not begins and word in JOINS:
            settle(trees, waiting, BINDS[word])
            waiting.append(word)
            begins = True
        elif not begins and word == ")" and "(" in waiting:
            settle(trees, waiting, 0)
            waiting.pop()
        else:
            raise BadForm(start)
    if begins or "(" in waiting:
        raise BadForm(len(text))
    settle(trees, waiting, 0)
    return trees[0]


def form_text(names, form):
    """The text of a tree, with single blanks and no bracket that isn't needed."""
    need_names(names)
    need_form(len(names), form)

    def told(part, below):
        if part[0] == "name":
            return names[part[1]], BINDS_MOST
        return part_text(part, below)
    return form_folded(form, told)[0]


def solutions(many, form):
    """The ascending list of the rows at which a form is yes."""
    need_form_of_many(many, form)
    rows = list(range(1 << many))

    def told(part, below):
        if part[0] == "name":
            return [row >> (many - 1 - part[1]) & 1 for row in rows]
        return [part_bit(part, [bits[row] for bits in below]) for row in rows]
    values = form_folded(form, told)
    return [row_of(many, index) for index, yes in enumerate(values) if yes == 1]


def form_rule(p, form):
    """The rule of a tree: 1 at the rows at which it is yes, 0 at the others."""
    need_prime(p)

    def told(part, below):
        return part if part[0] == "name" else part_rule(p, part, below)
    return form_folded(form, told)


def count_sum(p, many, form, claim):
    """The sum that claims that a form has so many solutions."""
    need_prime(p)
    need_form_of_many(many, form)
    need_number(p, claim)
    claimed = (p, many, form_rule(p, form), claim)
    if not is_sum(claimed):
        raise BadSum()
    return claimed


def fits_name(value):
    """Whether any value is a name in forms."""
    if not isinstance(value, str) or not 1 <= len(value) <= MOST_LETTERS or value in KEYS:
        return False
    return all([sign in LETTERS for sign in value])


def need_names(names):
    """Raise BadNames unless names is a tuple of unlike names, as many as may be at most."""
    if not isinstance(names, tuple) or len(names) > MOST_NAMES or not all([fits_name(name) for name in names]):
        raise BadNames()
    if len(set(names)) < len(names):
        raise BadNames()


def need_form(many, form):
    """Raise NoForm for any value that is no tree in so many names."""
    if not fits_form(many, form):
        raise NoForm()


def need_form_of_many(many, form):
    """Raise BadMany for what is no number of a form's names, then NoForm for what is no tree in so many."""
    if not in_bounds(many, 0, MOST_NAMES):
        raise BadMany()
    need_form(many, form)


def fits_form(many, form):
    """Whether any value is a tree in so many names."""
    waiting = [form]
    seen = 0
    while waiting:
        part = waiting.pop()
        seen += 1
        if seen > MOST_TUPLES or not fits_part(many, part):
            return False
        waiting.extend(parts_below(part))
    return True


def fits_part(many, part):
    """Whether any value is a tuple of a tree, what it joins being left aside."""
    if not isinstance(part, tuple) or not part or not isinstance(part[0], str):
        return False
    if len(part) != LENGTHS.get(part[0], 0):
        return False
    return part[0] != "name" or in_bounds(part[1], 0, many - 1)


def parts_below(part):
    """The tuple of the trees that a tuple of a tree joins."""
    return () if part[0] in LEAVES else part[1:]


def leaf_of(names, word):
    """The tree that a word is by itself, None if it is none."""
    if word in ("yes", "no"):
        return (word,)
    return ("name", names.index(word)) if word in names else None


def settle(trees, waiting, least):
    """Join the last trees by the words that wait since the last open bracket and bind at least so much."""
    while waiting and waiting[-1] in BINDS and BINDS[waiting[-1]] >= least:
        word = waiting.pop()
        last = trees.pop()
        trees.append(("not", last) if word == "not" else (word, trees.pop(), last))


def form_folded(form, told):
    """What a tree leads to: told(part, below) leads on a tuple of it, below being what the trees that it joins lead to.

    The walk keeps lists of what is still to be done, as trees may be deeper than calls should go."""
    parts = []
    waiting = [form]
    while waiting:
        part = waiting.pop()
        parts.append(part)
        waiting.extend(parts_below(part))
    done = []
    for part in reversed(parts):
        first = len(done) - len(parts_below(part))
        below = done[first:]
        del done[first:]
        done.append(told(part, below))
    return done[0]


def bracketed(told, least, brackets):
    """The text of a pair (text, how much it binds), in brackets if it binds less than it must."""
    text, binds = told
    return text if binds >= least else f"{brackets[0]}{text}{brackets[1]}"


def joined_text(word, below, sign, brackets):
    """The pair (text, how much it binds) of two such pairs, joined by a word that is written as a sign."""
    # As like ones are read from the left, the right one needs brackets even if it binds just as much.
    one, other = bracketed(below[0], BINDS[word], brackets), bracketed(below[1], BINDS[word] + 1, brackets)
    return f"{one} {sign} {other}", BINDS[word]


def part_text(part, below):
    """The pair (text, how much it binds) of a tuple that is no name, below being those of the trees that it joins."""
    word = part[0]
    if word == "not":
        return "not " + bracketed(below[0], BINDS[word], "()"), BINDS[word]
    if word in JOINS:
        return joined_text(word, below, word, "()")
    return word, BINDS_MOST


def part_bit(part, below):
    """1 if a tuple that is no name is yes, else 0, below being the same of the trees that it joins."""
    word = part[0]
    if word == "not":
        return 1 - below[0]
    if word == "and":
        return below[0] & below[1]
    if word == "or":
        return below[0] | below[1]
    if word == "xor":
        return below[0] ^ below[1]
    return 1 if word == "yes" else 0


def part_rule(p, part, below):
    """The rule of a tuple that is no name, below being those of the trees that it joins."""
    word = part[0]
    if word == "not":
        return against(below[0])
    if word in JOINS:
        return joined_rule(p, word, below[0], below[1])
    return ("number", 1) if word == "yes" else ("number", 0)


def against(rule):
    """The rule that is 1 where a rule is 0, and 0 where it is 1."""
    return "minus", ("number", 1), rule


def signed(rule):
    """The rule that is 1 where a rule is 0, and -1 where it is 1."""
    return "minus", ("number", 1), ("times", ("number", 2), rule)


def joined_rule(p, word, one, other):
    """The rule of two rules joined by a word, each standing once."""
    if word == "and":
        return "times", one, other
    if word == "or":
        return against(("times", against(one), against(other)))
    return "times", ("number", inverse_of(p, 2)), against(("times", signed(one), signed(other)))
