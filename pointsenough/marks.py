"""Claims with marks: that something holds for all choices of some names and some choice of others, and their judge."""

from pointsenough.errors import BadDraws, BadMarked
from pointsenough.lines import through, value_at
from pointsenough.numbers import all_numbers, in_bounds, is_prime, loss_of
from pointsenough.rules import fits_rule, told_degrees, values_behind
from pointsenough.sums import line_heard, line_word, need_draws, small_degrees
from pointsenough.tables import left_at, spread_at

MARKS = ("all", "some")
MOST_MARKS = 6
LOWER = "lower"


def is_marked(value):
    """Whether any value is a claim with marks."""
    if not isinstance(value, tuple) or len(value) != 4:
        return False
    p, marks, rule, claim = value
    if not is_prime(p) or not fits_marks(marks):
        return False
    return fits_rule(p, len(marks), rule) and in_bounds(claim, 0, p - 1) and small_degrees(len(marks), rule)


def worth(marked):
    """What the rule of a claim with marks is worth."""
    need_marked(marked)
    return worth_tables(marked)[0][0]


def rounds_of(marked):
    """The tuple of the judge's rounds: triples (word, name, degree)."""
    need_marked(marked)
    return rounds_in(marked)


def marked_line(marked, draws):
    """The line that the plain answerer tells behind these draws."""
    need_marked(marked)
    p = marked[0]
    rounds = rounds_in(marked)
    if not all_numbers(p, draws, len(rounds) - 1):
        raise BadDraws()
    stage = rounds[len(draws)]
    _, name, degree = stage
    numbers = numbers_drawn(rounds, draws)
    tables = worth_tables(marked)
    points = []
    # By p there are only p places; the line of least degree through all of them is the one that is told.
    for place in range(min(degree, p - 1) + 1):
        put = numbers[:name] + (place,) + numbers[name + 1:]
        points.append((place, value_within(marked, tables, stage, put)))
    return through(p, tuple(points))


def marked_judged(marked, lines, draws):
    """What the judge says of any value as lines: ("passed",) or ("caught", round, word)."""
    need_marked(marked)
    p, _, rule, so_far = marked
    rounds = rounds_in(marked)
    need_draws(p, draws, len(rounds))
    if not isinstance(lines, (tuple, list)):
        return "caught", 0, "line"
    for index, draw in enumerate(draws):
        line = line_heard(lines, index)
        word = round_word(p, rounds, draws[:index], line, so_far)
        if word != "":
            return "caught", index, word
        so_far = value_at(p, line, draw)
    if len(lines) > len(rounds):
        return "caught", len(rounds), "line"
    if value_drawn(p, rule, rounds, draws) != so_far:
        return "caught", len(rounds), "end"
    return ("passed",)


def marked_loss(marked):
    """The share of all draws at which a wrong claim with marks passes at most."""
    need_marked(marked)
    return loss_of(marked[0], [degree for _, _, degree in rounds_in(marked)])


def fits_marks(marks):
    """Whether any value is a tuple of marks, as many as may be at most."""
    return isinstance(marks, tuple) and len(marks) <= MOST_MARKS and all([mark in MARKS for mark in marks])


def need_marked(value):
    """Raise BadMarked for any value that is no claim with marks."""
    if not is_marked(value):
        raise BadMarked()


def rounds_in(marked):
    """The tuple of the judge's rounds, nothing being checked."""
    _, marks, rule, _ = marked
    degrees = told_degrees(len(marks), rule)
    rounds = []
    for name, mark in enumerate(marks):
        rounds.append((mark, name, 1))
        for lower in range(name + 1):
            rounds.append((LOWER, lower, 2 if name + 1 < len(marks) else degrees[lower]))
    return tuple(rounds)


def numbers_drawn(rounds, draws):
    """The tuple of the names' numbers behind draws, each one's last."""
    numbers = []
    for (word, name, _), draw in zip(rounds, draws):
        if word == LOWER:
            numbers[name] = draw
        else:
            numbers.append(draw)
    return tuple(numbers)


def value_drawn(p, rule, rounds, draws):
    """The value of a rule at the names' last numbers."""
    return values_behind(p, rule, numbers_drawn(rounds, draws), 0)[0]


def round_word(p, rounds, draws, line, so_far):
    """The word for what is wrong with any value told as the line of the round behind draws, "" if nothing is."""
    stage = rounds[len(draws)]
    word = line_word(p, line, stage[2])
    if word == "" and looked_at(p, line, stage, numbers_drawn(rounds, draws)) != so_far:
        return "rule"
    return word


def marked_value(p, mark, low, high):
    """What a mark makes of the worths with its name put to 0 and to 1."""
    if mark == "all":
        return low * high % p
    return (low + high - low * high) % p


def looked_at(p, line, stage, numbers):
    """What a round's line must be the claim so far by, the names being at their numbers."""
    word, name, _ = stage
    low, high = value_at(p, line, 0), value_at(p, line, 1)
    if word == LOWER:
        return (low + (high - low) * numbers[name]) % p
    return marked_value(p, word, low, high)


def paired(p, mark, table):
    """The table of the names ahead of a table's last one, which its mark takes away."""
    return [marked_value(p, mark, low, high) for low, high in zip(table[::2], table[1::2])]


def worth_tables(marked):
    """The list of tables of worths: the one at an index has so many names put to bits, those behind taken away."""
    p, marks, rule, _ = marked
    tables = [values_behind(p, rule, (), len(marks))]
    for mark in reversed(marks):
        tables.append(paired(p, mark, tables[-1]))
    return list(reversed(tables))


def value_within(marked, tables, stage, numbers):
    """The value of what stands within a round, the names that are there yet being at numbers."""
    p, marks, rule, _ = marked
    word, name, _ = stage
    there = len(numbers)
    if word != LOWER:
        return spread_at(p, tables[there], numbers)
    # The names behind this one are lowered within, so that only the values at their bits count.
    ahead, behind = numbers[:name + 1], numbers[name + 1:]
    if there == len(marks):
        values = values_behind(p, rule, ahead, len(behind))
    else:
        # Lowered as the names are within the next mark's round, what stands there is the spread of its worths.
        values = paired(p, marks[there], left_at(p, tables[there + 1], ahead))
    return spread_at(p, values, behind)
