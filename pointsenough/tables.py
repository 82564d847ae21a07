"""Tables of yes/no names, and their spreads over all points."""

from pointsenough.errors import BadNumber, BadPoint, BadRow, BadTable, TooGreat, UnlikePoints
from pointsenough.numbers import all_numbers, in_bounds, need_number, need_prime

TABLE_SIZES = (1, 2, 4, 8, 16, 32, 64, 128, 256, 512, 1024)
MOST_NAMES = 10
MOST_PLACES = 24
MOST_TRIED = 100000


def is_table(p, value):
    """Whether any value is a table."""
    need_prime(p)
    return fits_table(p, value)


def row_of(names, index):
    """The row of so many names at an index."""
    if not in_bounds(names, 0, MOST_NAMES):
        raise BadNumber()
    if not in_bounds(index, 0, (1 << names) - 1):
        raise BadNumber()
    return tuple([(index >> shift) & 1 for shift in reversed(range(names))])


def index_of(row):
    """The index of a row: read as a number in base two."""
    if not all_numbers(2, row, MOST_NAMES):
        raise BadRow()
    index = 0
    for bit in row:
        index = 2 * index + bit
    return index


def spread(p, table, point):
    """The value of a table's spread at a point."""
    need_prime(p)
    need_table(p, table)
    need_point(p, point)
    if len(point) != names_of(table):
        raise BadPoint()
    return spread_at(p, table, point)


def weights(p, point):
    """The table of what each row's entry weighs in a spread's value at a point."""
    need_prime(p)
    if not all_numbers(p, point, MOST_NAMES):
        raise BadPoint()
    products = [1]
    for number in point:
        against = (1 - number) % p
        products = [part * factor % p for part in products for factor in (against, number)]
    return tuple(products)


def alike(p, one, other):
    """The spread of likeness at two points: 1 for like rows, 0 for unlike ones."""
    need_two_points(p, one, other)
    result = 1
    for left, right in zip(one, other):
        result = result * like_at(p, left, right) % p
    return result


def held(p, table, number):
    """The table of the other names, the first one put to a number."""
    need_prime(p)
    need_table(p, table)
    if len(table) == 1:
        raise BadTable()
    need_number(p, number)
    return held_at(p, table, number)


def whole(p, table):
    """The sum of a table's entries."""
    need_prime(p)
    need_table(p, table)
    return sum(table) % p


def spread_noughts(p, table):
    """At how many of all points a table's spread is 0."""
    need_prime(p)
    need_table(p, table)
    points = 1
    for _ in range(names_of(table)):
        points = points * p
    if points > MOST_TRIED:
        raise TooGreat(MOST_TRIED)
    return count_noughts(p, table)


def behind(p, one, other):
    """The spread of following: 1 where other is the row of the index one more, 0 at other rows."""
    need_two_points(p, one, other)
    return behind_at(p, one, other)


def fits_table(p, value):
    """Whether any value is a table by p, p being a prime."""
    return all_numbers(p, value, TABLE_SIZES[-1]) and len(value) in TABLE_SIZES


def need_table(p, value):
    """Raise BadTable for any value that is no table."""
    if not fits_table(p, value):
        raise BadTable()


def need_point(p, value):
    """Raise BadPoint for any value that is no point."""
    if not all_numbers(p, value, MOST_PLACES):
        raise BadPoint()


def need_two_points(p, one, other):
    """Raise the error of the first thing that is wrong with two points of one length."""
    need_prime(p)
    need_point(p, one)
    need_point(p, other)
    if len(one) != len(other):
        raise UnlikePoints()


def bits_of(size):
    """How many names a table of so many numbers has."""
    return size.bit_length() - 1


def names_of(table):
    """How many names a table has."""
    return bits_of(len(table))


def like_at(p, left, right):
    """The likeness of two numbers, of degree 1 in each: 1 for like bits, 0 for unlike ones."""
    return (left * right + (1 - left) * (1 - right)) % p


def behind_at(p, one, other):
    """The spread of following at two points of one length, nothing being checked."""
    # One more turns the last 0 to 1 and the ones behind it to 0; what is ahead of it stays.
    result = 0
    all_turned = 1
    for left, right in reversed(list(zip(one, other))):
        turned_here = all_turned * (1 - left) * right
        result = (result * like_at(p, left, right) + turned_here) % p
        all_turned = all_turned * left * (1 - right) % p
    return result


def held_at(p, table, number):
    """The table with its first name put to a number, nothing being checked."""
    half = len(table) // 2
    return tuple([(low + (high - low) * number) % p for low, high in zip(table[:half], table[half:])])


def held_within(p, table, place, number):
    """The table with the name at a place put to a number, nothing being checked."""
    block = len(table) >> place
    entries = []
    for start in range(0, len(table), block):
        entries.extend(held_at(p, table[start:start + block], number))
    return tuple(entries)


def left_at(p, table, point):
    """The table of the names that are left when the first ones are put to a point's numbers, nothing being checked."""
    rest = table
    for number in point:
        rest = held_at(p, rest, number)
    return rest


def spread_at(p, table, point):
    """The value of a table's spread at a point of as many numbers, nothing being checked."""
    return left_at(p, table, point)[0]


def count_noughts(p, table):
    """At how many points a table's spread is 0, each first number tried by itself."""
    if len(table) == 1:
        return 1 if table[0] == 0 else 0
    return sum([count_noughts(p, held_at(p, table, number)) for number in range(p)])
