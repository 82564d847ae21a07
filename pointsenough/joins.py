"""Many at once: sums joined into one, and sums that are right where a rule is 0 at all rows."""

from pointsenough.errors import BadPoint, BadSum, BadSums
from pointsenough.numbers import loss_of, need_prime, so_many_numbers
from pointsenough.rules import need_rule, told_degrees
from pointsenough.sums import is_sum, need_draws
from pointsenough.tables import MOST_NAMES

MOST_SUMS = 8


def joined(p, sums, draws):
    """The sum of sums, each taken times the number drawn for it."""
    need_prime(p)
    need_sums(p, sums)
    need_draws(p, draws, len(sums))
    claim = sum([draw * claimed[3] for claimed, draw in zip(sums, draws)]) % p
    return sum_of_rule(p, sums[0][1], joined_rule(sums, draws), claim)


def joined_loss(p, sums):
    """The share of all draws at which joined sums of which one is wrong pass at most."""
    need_prime(p)
    need_sums(p, sums)
    # Whatever is drawn, the told degrees are the same.
    rule = joined_rule(sums, (0,) * len(sums))
    return loss_of(p, (1,) + told_degrees(sums[0][1], rule))


def nought_sum(p, many, rule, point):
    """The sum that claims that a rule's values at the rows, weighed by a point, add up to 0."""
    need_prime(p)
    need_rule(p, many, rule, MOST_NAMES)
    if not so_many_numbers(p, point, many):
        raise BadPoint()
    return sum_of_rule(p, many, weighed_rule(p, rule, point), 0)


def nought_loss(p, many, rule):
    """The share of all draws, the point's among them, at which a rule passes that isn't 0 at all rows, at most."""
    need_prime(p)
    need_rule(p, many, rule, MOST_NAMES)
    # Whatever is drawn, the told degrees are the same.
    claimed = sum_of_rule(p, many, weighed_rule(p, rule, (0,) * many), 0)
    return loss_of(p, (1,) * many + told_degrees(many, claimed[2]))


def need_sums(p, sums):
    """Raise BadSums unless sums is a tuple of some sums by p, but not too many, in as many names each."""
    if not isinstance(sums, tuple) or not 1 <= len(sums) <= MOST_SUMS or not all([is_sum(claimed) for claimed in sums]):
        raise BadSums()
    if not all([claimed[0] == p and claimed[1] == sums[0][1] for claimed in sums]):
        raise BadSums()


def sum_of_rule(p, many, rule, claim):
    """The sum of a rule and a claim; BadSum if it is none."""
    claimed = (p, many, rule, claim)
    if not is_sum(claimed):
        raise BadSum()
    return claimed


def from_left(word, rules):
    """The rule of a list of rules joined by a word from the left."""
    rule = rules[0]
    for other in rules[1:]:
        rule = (word, rule, other)
    return rule


def joined_rule(sums, draws):
    """The rule of sums, each one's taken times its number."""
    return from_left("plus", [("times", ("number", draw), claimed[2]) for claimed, draw in zip(sums, draws)])


def weighed_rule(p, rule, point):
    """The rule times the spread of likeness of its names and a point."""
    parts = [likeness(p, name, number) for name, number in enumerate(point)]
    return "times", from_left("times", parts or [("number", 1)]), rule


def likeness(p, name, number):
    """The rule of how alike a name and a number are."""
    for_one = ("times", ("number", number), ("name", name))
    against = ("minus", ("number", 1), ("name", name))
    return "plus", for_one, ("times", ("number", (1 - number) % p), against)
