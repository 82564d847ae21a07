"""Sheets of numbers: products of tables as matrices, and the judge of claimed ones."""

from pointsenough.errors import BadPoint, BadSizes, BadTable
from pointsenough.numbers import in_bounds, loss_of, need_number, need_prime, so_many_numbers
from pointsenough.sums import judged, need_draws
from pointsenough.tables import fits_table, names_of, need_table, spread_at

MOST_SIZE = 3


def product(p, one, other, sizes):
    """The product of a table of a + b names and one of b + c names."""
    need_factors(p, one, other, sizes)
    rows, between, columns = [1 << size for size in sizes]
    entries = []
    for row in range(rows):
        for column in range(columns):
            parts = [one[row * between + at] * other[at * columns + column] for at in range(between)]
            entries.append(sum(parts) % p)
    return tuple(entries)


def entry_sum(p, one, other, sizes, point, claim):
    """The sum that claims the value of the product's spread at a point."""
    need_factors(p, one, other, sizes)
    if not so_many_numbers(p, point, sizes[0] + sizes[2]):
        raise BadPoint()
    need_number(p, claim)
    return entry_claimed(p, one, other, sizes, point, claim)


def product_judged(p, one, other, sizes, claimed, draws, lines):
    """What the judge says of a whole table that is claimed as the product, and of any value as lines."""
    need_factors(p, one, other, sizes)
    need_table(p, claimed)
    first = sizes[0] + sizes[2]
    if names_of(claimed) != first:
        raise BadTable()
    need_draws(p, draws, sum(sizes))
    point = draws[:first]
    return judged(entry_claimed(p, one, other, sizes, point, spread_at(p, claimed, point)), lines, draws[first:])


def product_loss(p, sizes):
    """The share of all draws at which a wrong product passes at most."""
    need_prime(p)
    need_sizes(sizes)
    return loss_of(p, (1,) * (sizes[0] + sizes[2]) + (2,) * sizes[1])


def fits_sizes(value):
    """Whether any value is a triple of sizes."""
    return isinstance(value, tuple) and len(value) == 3 and all([in_bounds(size, 0, MOST_SIZE) for size in value])


def fits_product(p, one, other, sizes, claimed):
    """Whether any values are two tables to be multiplied, their sizes, and a table that is claimed as the product."""
    if not fits_sizes(sizes) or not all([fits_table(p, table) for table in (one, other, claimed)]):
        return False
    rows, between, columns = sizes
    return [names_of(table) for table in (one, other, claimed)] == [rows + between, between + columns, rows + columns]


def need_sizes(sizes):
    """Raise BadSizes for any value that is no triple of sizes."""
    if not fits_sizes(sizes):
        raise BadSizes()


def need_factors(p, one, other, sizes):
    """Raise the error of the first thing that is wrong with p, two tables to be multiplied and their sizes."""
    need_prime(p)
    need_table(p, one)
    need_table(p, other)
    need_sizes(sizes)
    if names_of(one) != sizes[0] + sizes[1] or names_of(other) != sizes[1] + sizes[2]:
        raise BadTable()


def entry_claimed(p, one, other, sizes, point, claim):
    """The sum that claims the value of the product's spread at a point, nothing being checked."""
    numbers = [("number", number) for number in point]
    names = [("name", name) for name in range(sizes[1])]
    left = ("table", one, tuple(numbers[:sizes[0]] + names))
    right = ("table", other, tuple(names + numbers[sizes[0]:]))
    return p, sizes[1], ("times", left, right), claim
