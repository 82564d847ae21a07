"""Rules as texts, written and read."""

from pointsenough.errors import BadMany, BadRule, BadRuleText
from pointsenough.numbers import in_bounds, need_prime
from pointsenough.rules import JOINS, MOST_WITHIN, fits_rule, need_rule
from pointsenough.tables import MOST_PLACES, TABLE_SIZES, bits_of
from pointsenough.texts import FIGURES, need_text

MOST_SIGNS = 20000
SIGNS = {"plus": "+", "minus": "-", "times": "*"}
WORDS = {"+": "plus", "-": "minus", "*": "times"}


def rule_text(p, many, rule):
    """The text of a rule."""
    need_prime(p)
    need_rule(p, many, rule, MOST_PLACES)
    return text_of_rule(rule)


def rule_of(p, many, text):
    """The rule of a text."""
    need_prime(p)
    if not in_bounds(many, 0, MOST_PLACES):
        raise BadMany()
    need_text(text)
    if len(text) > MOST_SIGNS:
        raise BadRuleText(MOST_SIGNS)
    rule, end = rule_read(p, many, text)
    if end < len(text):
        raise BadRuleText(end)
    if not fits_rule(p, many, rule):
        raise BadRule()
    return rule


def text_of_rule(rule):
    """The text of a rule, nothing being checked."""
    pieces = []
    waiting = [rule]
    while waiting:
        part = waiting.pop()
        if isinstance(part, str):
            pieces.append(part)
        elif part[0] in JOINS:
            waiting.extend([")", part[2], f" {SIGNS[part[0]]} ", part[1], "("])
        else:
            pieces.append(leaf_text(part))
    return "".join(pieces)


def leaf_text(leaf):
    """The text of a rule of a single tuple."""
    if leaf[0] != "table":
        return place_text(leaf)
    numbers = " ".join([str(number) for number in leaf[1]])
    places = ", ".join([place_text(place) for place in leaf[2]])
    return f"[{numbers}]({places})"


def place_text(place):
    """The text of a number or a name."""
    return f"x{place[1]}" if place[0] == "name" else str(place[1])


def rule_read(p, many, text):
    """The pair (rule, end) of the rule that a text begins with, of however many tuples.

    What is read stops at the first sign with which no text of a rule goes on; BadRuleText tells its index."""
    # For each bracket that is not closed yet: what its sign and the rule ahead of it are, "" and () ahead of both.
    waiting = []
    end = 0
    while True:
        # A bracket's parts stand within it, so the last tuple that may stand there must be none.
        if text[end:end + 1] == "(" and len(waiting) < MOST_WITHIN - 1:
            waiting.append(("", ()))
            end += 1
            continue
        rule, end = leaf_read(p, many, text, end)
        while waiting and waiting[-1][0] != "":
            word, one = waiting.pop()
            end = sign_read(text, end, ")")
            rule = (word, one, rule)
        if not waiting:
            return rule, end
        word, end = word_read(text, end)
        waiting[-1] = (word, rule)


def sign_read(text, at, sign):
    """The index behind a sign that must stand at an index."""
    if text[at:at + 1] != sign:
        raise BadRuleText(at)
    return at + 1


def word_read(text, at):
    """The pair (word, end) of a join's sign with its blanks."""
    at = sign_read(text, at, " ")
    sign = text[at:at + 1]
    if sign not in WORDS:
        raise BadRuleText(at)
    return WORDS[sign], sign_read(text, at + 1, " ")


def number_read(text, at, most):
    """The pair (integer, end) of figures from 0 to most."""
    number = 0
    end = at
    while end < len(text) and text[end] in FIGURES:
        longer = 10 * number + int(text[end])
        # Behind a nought that begins no figure can stand.
        if longer > most or end > at and number == 0:
            raise BadRuleText(end)
        number = longer
        end += 1
    if end == at:
        raise BadRuleText(at)
    return number, end


def place_read(p, many, text, at):
    """The pair (place, end) of a number or a name."""
    if many > 0 and text[at:at + 1] == "x":
        name, end = number_read(text, at + 1, many - 1)
        return ("name", name), end
    number, end = number_read(text, at, p - 1)
    return ("number", number), end


def leaf_read(p, many, text, at):
    """The pair (rule, end) of a rule of a single tuple."""
    if text[at:at + 1] != "[":
        return place_read(p, many, text, at)
    table, at = table_read(p, text, at)
    at = sign_read(text, at, "(")
    places = []
    for index in range(bits_of(len(table))):
        if index > 0:
            at = sign_read(text, sign_read(text, at, ","), " ")
        place, at = place_read(p, many, text, at)
        places.append(place)
    return ("table", table, tuple(places)), sign_read(text, at, ")")


def table_read(p, text, at):
    """The pair (table, end) of a table in its brackets."""
    number, at = number_read(text, at + 1, p - 1)
    numbers = [number]
    while text[at:at + 1] == " " and len(numbers) < TABLE_SIZES[-1]:
        number, at = number_read(text, at + 1, p - 1)
        numbers.append(number)
    if len(numbers) not in TABLE_SIZES:
        raise BadRuleText(at)
    return tuple(numbers), sign_read(text, at, "]")
