"""Sums, their judge, and the lines that are told to the judge."""

from pointsenough.errors import BadDegree, BadDraws, BadSum
from pointsenough.lines import fits_line, mixed, multiplied, need_line, nought_at, through, value_at
from pointsenough.numbers import (
    all_numbers, in_bounds, inverse_of, is_prime, loss_of, need_number, need_prime, so_many_numbers)
from pointsenough.rules import fits_rule, parts_of, told_degrees, values_behind
from pointsenough.tables import MOST_NAMES

MOST_DEGREE = 30


def is_sum(value):
    """Whether any value is a sum."""
    if not isinstance(value, tuple) or len(value) != 4:
        return False
    p, many, rule, claim = value
    if not is_prime(p) or not in_bounds(many, 0, MOST_NAMES):
        return False
    if not fits_rule(p, many, rule) or not in_bounds(claim, 0, p - 1):
        return False
    return small_degrees(many, rule)


def is_so(claimed):
    """Whether what a sum claims is right."""
    need_sum(claimed)
    return true_claim(claimed) == claimed[3]


def plain_line(claimed, draws):
    """The line that the plain answerer tells behind these draws."""
    need_sum(claimed)
    if not all_numbers(claimed[0], draws, claimed[1] - 1):
        raise BadDraws()
    return plain_behind(claimed, draws)


def judged(claimed, lines, draws):
    """What the judge says of any value as lines: ("passed",) or ("caught", round, word)."""
    need_sum(claimed)
    need_draws(claimed[0], draws, claimed[1])
    told, word = rounds_heard(claimed, lines, draws)
    if word == "":
        word = end_word(claimed, lines, draws, told[-1])
    if word == "":
        return ("passed",)
    return "caught", len(told) - 1, word


def claims(claimed, lines, draws):
    """The tuple of the claims so far, ahead of each round that is come to and behind the last."""
    need_sum(claimed)
    need_draws(claimed[0], draws, claimed[1])
    told, _ = rounds_heard(claimed, lines, draws)
    return tuple(told)


def loss(claimed):
    """The share of all draws at which a wrong sum passes at most."""
    need_sum(claimed)
    p, many, rule, _ = claimed
    return loss_of(p, told_degrees(many, rule))


def best_line(p, plain, claim, degree):
    """The line of a degree that agrees with a claim and meets the plain line at as many places as it may."""
    need_prime(p)
    need_line(p, plain)
    need_number(p, claim)
    if not in_bounds(degree, 0, MOST_DEGREE):
        raise BadDegree()
    return best_beside(p, plain, claim, degree)


def work(claimed):
    """What the judge and the plain answerer have to do: a pair of triples."""
    need_sum(claimed)
    _, many, rule, _ = claimed
    degrees = told_degrees(many, rule)
    numbers_told = sum(degrees) + many
    rows = sum([(degree + 1) << (many - 1 - name) for name, degree in enumerate(degrees)])
    return (numbers_told, many, len(parts_of(rule))), (numbers_told, rows, many)


def small_degrees(many, rule):
    """Whether the told degrees of a rule are small enough for a sum."""
    return all([degree <= MOST_DEGREE for degree in told_degrees(many, rule)])


def need_sum(value):
    """Raise BadSum for any value that is no sum."""
    if not is_sum(value):
        raise BadSum()


def need_draws(p, draws, many):
    """Raise BadDraws unless draws are a tuple of just so many numbers."""
    if not so_many_numbers(p, draws, many):
        raise BadDraws()


def true_claim(claimed):
    """What the rule of a sum adds up to."""
    p, many, rule, _ = claimed
    return sum(values_behind(p, rule, (), many)) % p


def plain_behind(claimed, draws):
    """The plain line behind fewer draws than names, nothing being checked."""
    p, many, rule, _ = claimed
    degree = told_degrees(many, rule)[len(draws)]
    behind = many - len(draws) - 1
    points = []
    # By p there are only p places; the line of least degree through all of them is the one that is told.
    for place in range(min(degree, p - 1) + 1):
        points.append((place, sum(values_behind(p, rule, draws + (place,), behind)) % p))
    return through(p, tuple(points))


def best_beside(p, plain, claim, degree):
    """The best line beside a plain one, nothing being checked."""
    lack = (claim - halves(p, plain)) % p
    vanishing = (1,)
    for index in range(min(degree, p - 1)):
        # The place 1 is left out: there the line must be able to make up for what lacks.
        place = index + 1 if index > 0 else 0
        vanishing = multiplied(p, vanishing, nought_at(p, place))
    factor = lack * inverse_of(p, halves(p, vanishing)) % p
    return mixed(p, plain, vanishing, factor)


def halves(p, line):
    """What the values of a line at 0 and 1 add up to."""
    return (value_at(p, line, 0) + value_at(p, line, 1)) % p


def line_heard(lines, index):
    """The item of a tuple or list of lines at an index, None behind its end."""
    return lines[index] if index < len(lines) else None


def line_word(p, line, degree):
    """The word for what is wrong with any value as a line of at most a degree, "" if nothing is."""
    if not fits_line(p, line):
        return "line"
    return "degree" if len(line) - 1 > degree else ""


def wrong_word(p, line, degree, claim):
    """The word for what is wrong with any value told as a round's line, "" if nothing is."""
    word = line_word(p, line, degree)
    if word == "" and halves(p, line) != claim:
        return "halves"
    return word


def rounds_heard(claimed, lines, draws):
    """The pair (claims so far, word) of as many rounds as draws: the word of the first wrong one, "" if none is."""
    p, many, rule, claim = claimed
    return heard_by_degrees(p, told_degrees(many, rule), claim, lines, draws)


def heard_by_degrees(p, degrees, claim, lines, draws):
    """The pair (claims so far, word) of rounds of such degrees, as many as draws, told as rounds_heard tells it."""
    told = [claim]
    if not isinstance(lines, (tuple, list)):
        return told, "line"
    for index, draw in enumerate(draws):
        line = line_heard(lines, index)
        word = wrong_word(p, line, degrees[index], told[-1])
        if word != "":
            return told, word
        told.append(value_at(p, line, draw))
    return told, ""


def end_word(claimed, lines, draws, so_far):
    """The word for what is wrong behind all rounds, "" if nothing is."""
    p, many, rule, _ = claimed
    if len(lines) > many:
        return "line"
    return "" if values_behind(p, rule, draws, 0)[0] == so_far else "end"
