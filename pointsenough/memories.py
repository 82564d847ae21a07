"""Memory logs: what was in cells and what was put there, and the judge that compares two bags of it."""

from pointsenough.bags import bag_product_at
from pointsenough.errors import BadDeeds, BadFirst, BadLast
from pointsenough.numbers import need_number, need_prime, share, so_many_wholes

MOST_CELLS = 16
MOST_DEEDS = 60


def is_true_log(first, deeds, last):
    """Whether any values are a log, of integers from 0 on, that tells what the plain memory has."""
    if not fits_first(None, first) or not fits_deeds(None, first, deeds) or not fits_last(None, last):
        return False
    return (deeds, last) == log_of(first, [(cell, new) for cell, _, _, new in deeds])


def put_bag(first, deeds):
    """The bag of what is put: the first values, then what the deeds put."""
    need_first(None, first)
    need_deeds(None, first, deeds)
    return bag_put(first, deeds)


def taken_bag(deeds, last):
    """The bag of what is taken: what was there ahead of the deeds, then the last values."""
    need_deeds(None, None, deeds)
    need_last(None, last)
    # The last has a pair for each cell, so only here is it known which cells there are.
    need_deeds(None, last, deeds)
    return bag_taken(deeds, last)


def late(deeds):
    """The index of the first deed whose told time is not below its own time, None if there is none."""
    need_deeds(None, None, deeds)
    return first_late(deeds)


def log_judged(p, first, deeds, last, z, w):
    """What the judge says of a log: ("passed",) or ("caught", index, word)."""
    need_prime(p)
    need_first(p, first)
    need_deeds(p, first, deeds)
    need_last(p, last)
    if len(last) != len(first):
        raise BadLast()
    need_number(p, z)
    need_number(p, w)
    index = first_late(deeds)
    if index is not None:
        return "caught", index, "time"
    if bag_product_at(p, bag_put(first, deeds), z, w) != bag_product_at(p, bag_taken(deeds, last), z, w):
        return "caught", len(deeds), "bags"
    return ("passed",)


def log_loss(p, first, deeds):
    """The share of all pairs (z, w) at which a false log passes at most."""
    need_prime(p)
    need_first(p, first)
    need_deeds(p, first, deeds)
    return share(min(2 * (len(first) + len(deeds)), p), p)


def mended_log(first, deeds):
    """The pair (deeds, last) with the cells and new values of deeds, and all else as the plain memory has it."""
    need_first(None, first)
    need_deeds(None, first, deeds)
    return log_of(first, [(cell, None if new == old else new) for cell, old, _, new in deeds])


def fits_first(p, first):
    """Whether any value is the first values of cells: numbers, or integers from 0 on where p is None."""
    if not isinstance(first, tuple) or not 1 <= len(first) <= MOST_CELLS:
        return False
    return so_many_wholes(p, first, len(first))


def fits_deeds(p, cells, deeds):
    """Whether any value is deeds over a tuple's cells (over any where it is None), less than p where p isn't None."""
    if not isinstance(deeds, tuple) or len(deeds) > MOST_DEEDS:
        return False
    if p is not None and len(deeds) >= p:
        return False
    if not all([so_many_wholes(p, deed, 4) for deed in deeds]):
        return False
    return cells is None or all([deed[0] < len(cells) for deed in deeds])


def fits_last(p, last):
    """Whether any value is the last of some cells: pairs of numbers, or of integers from 0 on where p is None."""
    if not isinstance(last, tuple) or not 1 <= len(last) <= MOST_CELLS:
        return False
    return all([so_many_wholes(p, pair, 2) for pair in last])


def need_first(p, first):
    """Raise BadFirst for any value that is no first values."""
    if not fits_first(p, first):
        raise BadFirst()


def need_deeds(p, cells, deeds):
    """Raise BadDeeds for any value that is no deeds over a tuple's cells, over any where it is None."""
    if not fits_deeds(p, cells, deeds):
        raise BadDeeds()


def need_last(p, last):
    """Raise BadLast for any value that is no last of some cells."""
    if not fits_last(p, last):
        raise BadLast()


def log_of(first, puts):
    """The pair (deeds, last) of a plain memory that is put pairs (cell, new), new being None for a read."""
    there = [(value, 0) for value in first]
    deeds = []
    for index, (cell, new) in enumerate(puts):
        old, told = there[cell]
        put = old if new is None else new
        deeds.append((cell, old, told, put))
        there[cell] = (put, index + 1)
    return tuple(deeds), tuple(there)


def bag_put(first, deeds):
    """The bag of what is put, nothing being checked."""
    firsts = [(cell, value, 0) for cell, value in enumerate(first)]
    return tuple(firsts + [(cell, new, index + 1) for index, (cell, _, _, new) in enumerate(deeds)])


def bag_taken(deeds, last):
    """The bag of what is taken, nothing being checked."""
    lasts = [(cell, value, time) for cell, (value, time) in enumerate(last)]
    return tuple([(cell, old, told) for cell, old, told, _ in deeds] + lasts)


def first_late(deeds):
    """The index of the first late deed, None if there is none, nothing being checked."""
    for index, (_, _, told, _) in enumerate(deeds):
        if told > index:
            return index
    return None
