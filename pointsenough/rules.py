"""Rules: reckonings in names, joined from numbers, names and spreads of tables."""

from pointsenough.errors import BadMany, BadName, BadPoint, BadRule
from pointsenough.numbers import in_bounds, need_number, need_prime
from pointsenough.tables import MOST_NAMES, MOST_PLACES, fits_table, held_within, names_of, need_point

JOINS = ("plus", "minus", "times")
MOST_TUPLES = 2000
MOST_WITHIN = 400


def is_rule(p, many, value):
    """Whether any value is a rule in so many names (any value too)."""
    need_prime(p)
    return in_bounds(many, 0, MOST_PLACES) and fits_rule(p, many, value)


def value(p, many, rule, point):
    """The value of a rule at a point."""
    need_prime(p)
    need_rule(p, many, rule, MOST_PLACES)
    need_point(p, point)
    if len(point) != many:
        raise BadPoint()
    return values_behind(p, rule, point, 0)[0]


def told_degrees(many, rule):
    """The tuple of the told degrees of a rule in each name."""
    def leaf_degrees(leaf):
        places = leaf[2] if leaf[0] == "table" else (leaf,)
        return tuple([places.count(("name", name)) for name in range(many)])
    return folded(rule, leaf_degrees, joined_degrees)


def put(p, many, rule, name, number):
    """The rule with a name replaced by a number wherever it stands."""
    need_prime(p)
    need_rule(p, many, rule, MOST_PLACES)
    if not in_bounds(name, 0, many - 1):
        raise BadName()
    need_number(p, number)

    def place_put(place):
        return ("number", number) if place == ("name", name) else place

    def leaf_put(leaf):
        if leaf[0] == "table":
            return "table", leaf[1], tuple([place_put(place) for place in leaf[2]])
        return place_put(leaf)
    return folded(rule, leaf_put, joined_tuple)


def row_values(p, many, rule):
    """The table of a rule's values at all rows."""
    need_prime(p)
    need_rule(p, many, rule, MOST_NAMES)
    return tuple(values_behind(p, rule, (), many))


def sum_of(p, many, rule):
    """The sum of a rule's values over all rows."""
    need_prime(p)
    need_rule(p, many, rule, MOST_NAMES)
    return sum(values_behind(p, rule, (), many)) % p


def fits_rule(p, many, rule):
    """Whether any value is a rule by p in so many names, p and many being right."""
    waiting = [(rule, 1)]
    seen = 0
    while waiting:
        part, within = waiting.pop()
        seen += 1
        if seen > MOST_TUPLES or within > MOST_WITHIN:
            return False
        if joins_two(part):
            waiting.append((part[1], within + 1))
            waiting.append((part[2], within + 1))
        elif not fits_leaf(p, many, part):
            return False
    return True


def joins_two(part):
    """Whether any value has the form of a rule joined from two others."""
    return isinstance(part, tuple) and len(part) == 3 and part[0] in JOINS


def fits_leaf(p, many, leaf):
    """Whether any value is a rule of a single tuple."""
    if fits_place(p, many, leaf):
        return True
    if not isinstance(leaf, tuple) or len(leaf) != 3 or leaf[0] != "table" or not fits_table(p, leaf[1]):
        return False
    places = leaf[2]
    if not isinstance(places, tuple) or len(places) != names_of(leaf[1]):
        return False
    return all([fits_place(p, many, place) for place in places])


def fits_place(p, many, place):
    """Whether any value is a number or a name, as they stand in rules and at tables' places."""
    if not isinstance(place, tuple) or len(place) != 2:
        return False
    if place[0] == "number":
        return in_bounds(place[1], 0, p - 1)
    return place[0] == "name" and in_bounds(place[1], 0, many - 1)


def need_rule(p, many, rule, most):
    """Raise BadMany unless many is from 0 to most, then BadRule for what is no rule in so many names."""
    if not in_bounds(many, 0, most):
        raise BadMany()
    if not fits_rule(p, many, rule):
        raise BadRule()


def parts_of(rule):
    """The list of all tuples of a rule (those of places left out), each behind the ones that it joins."""
    parts = []
    waiting = [rule]
    while waiting:
        part = waiting.pop()
        parts.append(part)
        if part[0] in JOINS:
            waiting.append(part[1])
            waiting.append(part[2])
    return list(reversed(parts))


def folded(rule, leaf_told, join_told):
    """What a rule leads to, its leaves led on by leaf_told(leaf), its joins by join_told(word, one, other).

    The walk keeps a list of what is still to be joined, as rules may be deeper than calls should go."""
    waiting = []
    for part in parts_of(rule):
        if part[0] in JOINS:
            other = waiting.pop()
            one = waiting.pop()
            waiting.append(join_told(part[0], one, other))
        else:
            waiting.append(leaf_told(part))
    return waiting[0]


def joined_tuple(word, one, other):
    """The rule joined from two others."""
    return word, one, other


def joined_degrees(word, one, other):
    """The told degrees of a rule joined from two others, by theirs."""
    if word == "times":
        return tuple([left + right for left, right in zip(one, other)])
    return tuple([max(left, right) for left, right in zip(one, other)])


def values_behind(p, rule, ahead, behind):
    """The list of a rule's values, the first names put to the numbers ahead, at all rows of the names behind."""
    def leaf_values(leaf):
        entries, free = leaf_left(p, leaf, ahead)
        indexes = [0] * (1 << behind)
        for name in free:
            shift = len(ahead) + behind - 1 - name
            indexes = [2 * index + (row >> shift & 1) for row, index in enumerate(indexes)]
        return [entries[index] for index in indexes]

    def joined_values(word, one, other):
        if word == "plus":
            return [(left + right) % p for left, right in zip(one, other)]
        if word == "minus":
            return [(left - right) % p for left, right in zip(one, other)]
        return [left * right % p for left, right in zip(one, other)]
    return folded(rule, leaf_values, joined_values)


def leaf_left(p, leaf, ahead):
    """The pair (table, names): a leaf as a table whose places are the names that are not put to numbers ahead."""
    # A name or a number by itself is the table (0, 1) at this place.
    entries, places = (leaf[1], leaf[2]) if leaf[0] == "table" else ((0, 1), (leaf,))
    free = []
    for word, item in places:
        if word == "name" and item >= len(ahead):
            free.append(item)
        else:
            number = ahead[item] if word == "name" else item
            entries = held_within(p, entries, len(free), number)
    return entries, free
