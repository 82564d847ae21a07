"""Webs: knots and the ties between them, their closed walks and triangles, and sums that count these."""

from pointsenough.errors import BadLength, BadWeb
from pointsenough.numbers import ascends, in_bounds, need_number, need_prime
from pointsenough.tables import bits_of

KNOTS = (1, 2, 4, 8)
LENGTHS = (2, 3)
# Each triangle is walked from each of its knots, both ways round.
WALKS_OF_TRIANGLE = 6


def ties_table(web):
    """The table, of the names of two knots' bits, of 1 where the two are tied."""
    need_web(web)
    knots, ties = web
    pairs = [(one, other) for one in range(knots) for other in range(knots)]
    return tuple([1 if (min(pair), max(pair)) in ties else 0 for pair in pairs])


def walks_sum(p, web, length, claim):
    """The sum that claims that a web has so many closed walks of a length."""
    need_prime(p)
    need_web(web)
    need_length(length)
    need_number(p, claim)
    return walks_claimed(p, web, length, claim)


def triangles_sum(p, web, claim):
    """The sum that claims that a web has so many triangles."""
    need_prime(p)
    need_web(web)
    need_number(p, claim)
    return walks_claimed(p, web, 3, WALKS_OF_TRIANGLE * claim % p)


def walks(web, length):
    """How many closed walks of a length a web has."""
    need_web(web)
    need_length(length)
    return count_walks(web, length)


def triangles(web):
    """How many triangles a web has."""
    need_web(web)
    return count_walks(web, 3) // WALKS_OF_TRIANGLE


def need_web(web):
    """Raise BadWeb for any value that is no web."""
    if not fits_web(web):
        raise BadWeb()


def need_length(length):
    """Raise BadLength for any value that is no length of walks."""
    if not in_bounds(length, LENGTHS[0], LENGTHS[-1]):
        raise BadLength()


def fits_web(web):
    """Whether any value is a web."""
    if not isinstance(web, tuple) or len(web) != 2:
        return False
    knots, ties = web
    if not in_bounds(knots, 1, KNOTS[-1]) or knots not in KNOTS or not isinstance(ties, tuple):
        return False
    return all([fits_tie(knots, tie) for tie in ties]) and ascends(ties)


def fits_tie(knots, tie):
    """Whether any value is a pair of two of so many knots, the lesser one in front."""
    if not isinstance(tie, tuple) or len(tie) != 2:
        return False
    return in_bounds(tie[1], 0, knots - 1) and in_bounds(tie[0], 0, tie[1] - 1)


def walks_claimed(p, web, length, claim):
    """The sum that claims so many closed walks, nothing being checked."""
    bits = bits_of(web[0])
    table = ties_table(web)

    def tied(one, other):
        places = [("name", knot * bits + bit) for knot in (one, other) for bit in range(bits)]
        return "table", table, tuple(places)
    rule = tied(0, 1)
    for step in range(1, length):
        rule = ("times", rule, tied(step, (step + 1) % length))
    return p, length * bits, rule, claim


def count_walks(web, length):
    """How many closed walks of a length a web has, nothing being checked."""
    knots = web[0]
    table = ties_table(web)
    total = 0
    for start in range(knots):
        # reached has, for each knot, how many walks of the steps so far lead there.
        reached = [1 if knot == start else 0 for knot in range(knots)]
        for _ in range(length):
            reached = [sum([reached[one] * table[one * knots + knot] for one in range(knots)]) for knot in range(knots)]
        total += reached[start]
    return total
