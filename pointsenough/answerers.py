"""Answerers: who tells lines by a rule, and at which part of all draws they pass."""

from pointsenough.errors import BadAnswerer, TooGreat
from pointsenough.lines import fits_line, mixed, value_at
from pointsenough.numbers import all_numbers, ascends, inverse_of, share
from pointsenough.rules import told_degrees
from pointsenough.sums import best_beside, halves, is_sum, need_draws, need_sum, plain_behind, true_claim, wrong_word

PLAIN_WORDS = ("plain", "best", "even")
MOST_DRAWS = 30000


def is_answerer(claimed, value):
    """Whether any value is an answerer for any value as a sum."""
    return is_sum(claimed) and fits_answerer(claimed, value)


def lines_of(claimed, answerer, draws):
    """The tuple of the lines that an answerer tells, the draws being all."""
    need_sum(claimed)
    need_answerer(claimed, answerer)
    need_draws(claimed[0], draws, claimed[1])
    book = book_of(answerer)
    so_far = claimed[3]
    lines = []
    for index, draw in enumerate(draws):
        ahead = draws[:index]
        line = line_told(claimed, answerer, book, ahead, so_far, plain_behind(claimed, ahead))
        lines.append(line)
        so_far = value_at(claimed[0], line, draw)
    return tuple(lines)


def share_of(claimed, answerer):
    """The share of all draws at which an answerer's lines pass."""
    return chances(claimed, answerer)[-1]


def chances(claimed, answerer):
    """The tuple of the shares of all draws that are caught in each round, behind all, and that pass."""
    need_sum(claimed)
    need_answerer(claimed, answerer)
    all_rows = rows_of_draws(claimed[0], claimed[1])
    if all_rows > MOST_DRAWS:
        raise TooGreat(MOST_DRAWS)
    return tuple([share(number, all_rows) for number in outcomes(claimed, answerer)])


def fits_answerer(claimed, value):
    """Whether any value is an answerer for a sum."""
    if not isinstance(value, tuple):
        return False
    if len(value) == 1:
        return value[0] in PLAIN_WORDS
    if len(value) != 2 or value[0] != "by" or not isinstance(value[1], tuple):
        return False
    return all([fits_pair(claimed, pair) for pair in value[1]]) and ascends([pair[0] for pair in value[1]])


def fits_pair(claimed, pair):
    """Whether any value is a pair of draws so far and a line."""
    if not isinstance(pair, tuple) or len(pair) != 2:
        return False
    p = claimed[0]
    return all_numbers(p, pair[0], claimed[1] - 1) and fits_line(p, pair[1])


def need_answerer(claimed, value):
    """Raise BadAnswerer for any value that is no answerer for a sum."""
    if not fits_answerer(claimed, value):
        raise BadAnswerer()


def book_of(answerer):
    """The dict from draws so far to the line that an answerer tells behind them, where it has them by pairs."""
    return {draws: line for draws, line in answerer[1]} if answerer[0] == "by" else {}


def line_told(claimed, answerer, book, draws, so_far, plain):
    """The line that an answerer tells behind the draws so far, plain being the plain one."""
    p = claimed[0]
    if draws in book:
        return book[draws]
    if answerer[0] == "plain":
        return plain
    if answerer[0] == "even":
        half = (so_far - halves(p, plain)) * inverse_of(p, 2) % p
        return mixed(p, plain, (half,), 1)
    return best_beside(p, plain, so_far, told_degrees(claimed[1], claimed[2])[len(draws)])


def outcomes(claimed, answerer):
    """How many of all draws are caught in round 0, 1, .., behind all rounds, and how many pass: a list."""
    p, many, rule, claim = claimed
    degrees = told_degrees(many, rule)
    book = book_of(answerer)
    numbers = [0] * (many + 2)
    # Beside the claim so far goes what is true, which the plain lines lead to: at the end these two are compared.
    waiting = [((), claim, true_claim(claimed))]
    while waiting:
        draws, so_far, truth = waiting.pop()
        done = len(draws)
        if done == many:
            numbers[many if so_far != truth else many + 1] += 1
            continue
        plain = plain_behind(claimed, draws)
        line = line_told(claimed, answerer, book, draws, so_far, plain)
        if wrong_word(p, line, degrees[done], so_far) != "":
            numbers[done] += rows_of_draws(p, many - done)
            continue
        for draw in range(p):
            waiting.append((draws + (draw,), value_at(p, line, draw), value_at(p, plain, draw)))
    return numbers


def rows_of_draws(p, names):
    """How many rows of draws so many names have."""
    rows = 1
    for _ in range(names):
        rows *= p
    return rows
