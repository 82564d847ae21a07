"""Lines: polynomials of one name, told by their numbers from the lowest one on."""

from pointsenough.errors import BadLine, BadPoints, Nought, SamePlace, TooGreat, TooMany
from pointsenough.numbers import all_numbers, inverse_of, need_number, need_prime

MOST_NUMBERS = 200
MOST_POINTS = 60
GREATEST_TRIED = 10007


def is_line(p, value):
    """Whether any value is a line."""
    need_prime(p)
    return fits_line(p, value)


def at(p, line, place):
    """The value of a line at a number."""
    need_prime(p)
    need_line(p, line)
    need_number(p, place)
    return value_at(p, line, place)


def plus(p, one, other):
    """The line one + other."""
    need_two_lines(p, one, other)
    return mixed(p, one, other, 1)


def minus(p, one, other):
    """The line one - other."""
    need_two_lines(p, one, other)
    return mixed(p, one, other, p - 1)


def times(p, one, other):
    """The line one times other."""
    need_two_lines(p, one, other)
    # By a prime the product of two numbers other than 0 isn't 0, so no length is lost.
    if one and other and len(one) + len(other) - 1 > MOST_NUMBERS:
        raise TooMany(MOST_NUMBERS)
    return multiplied(p, one, other)


def scaled(p, line, number):
    """The line times a number."""
    need_prime(p)
    need_line(p, line)
    need_number(p, number)
    return mixed(p, (), line, number)


def divided(p, one, other):
    """The pair (quotient, rest) of one divided by other."""
    need_two_lines(p, one, other)
    if not other:
        raise Nought()
    rest = list(one)
    shifts = range(len(one) - len(other) + 1)
    quotient = [0] * len(shifts)
    top_inverse = inverse_of(p, other[-1])
    for shift in reversed(shifts):
        factor = rest[shift + len(other) - 1] * top_inverse % p
        quotient[shift] = factor
        for k, number in enumerate(other):
            rest[shift + k] = (rest[shift + k] - factor * number) % p
    return trimmed(quotient), trimmed(rest)


def through(p, points):
    """The line of least degree through pairs (place, value)."""
    need_prime(p)
    need_points(p, points)
    return line_through(p, points)


def with_noughts(p, places):
    """The product of x - place over the places."""
    need_prime(p)
    if not all_numbers(p, places, MOST_POINTS):
        raise BadPoints()
    line = (1,)
    for place in places:
        line = multiplied(p, line, nought_at(p, place))
    return line


def noughts(p, line):
    """The ascending tuple of the numbers at which a line is 0."""
    need_prime(p)
    need_line(p, line)
    if not line:
        raise Nought()
    if p > GREATEST_TRIED:
        raise TooGreat(GREATEST_TRIED)
    return tuple([place for place in range(p) if value_at(p, line, place) == 0])


def led(p, line, low, step):
    """The line whose value at x is that of line at low + step x."""
    need_prime(p)
    need_line(p, line)
    need_number(p, low)
    need_number(p, step)
    result = ()
    for number in reversed(line):
        result = mixed(p, multiplied(p, result, (low, step)), (number,), 1)
    return result


def fits_line(p, value):
    """Whether any value is a line by p, p being a prime."""
    return all_numbers(p, value, MOST_NUMBERS) and (len(value) == 0 or value[-1] != 0)


def need_line(p, value):
    """Raise BadLine for any value that is no line."""
    if not fits_line(p, value):
        raise BadLine()


def need_two_lines(p, one, other):
    """Raise the error of the first argument that is wrong in a reckoning of two lines."""
    need_prime(p)
    need_line(p, one)
    need_line(p, other)


def need_points(p, points):
    """Raise BadPoints for what is no tuple of pairs, SamePlace for a place that comes again."""
    if not isinstance(points, tuple) or len(points) > MOST_POINTS:
        raise BadPoints()
    for pair in points:
        if not all_numbers(p, pair, 2) or len(pair) != 2:
            raise BadPoints()
    seen = set()
    for place, _ in points:
        if place in seen:
            raise SamePlace(place)
        seen.add(place)


def trimmed(numbers):
    """The line of a list of numbers: without the noughts at its end."""
    length = len(numbers)
    while length > 0 and numbers[length - 1] == 0:
        length -= 1
    return tuple(numbers[:length])


def line_through(p, points):
    """The line of least degree through pairs (place, value) of unlike places, nothing being checked."""
    line = ()
    # vanishing is 0 at all places that the line already goes through: adding it spoils none of them.
    vanishing = (1,)
    for place, number in points:
        lack = (number - value_at(p, line, place)) % p
        factor = lack * inverse_of(p, value_at(p, vanishing, place)) % p
        line = mixed(p, line, vanishing, factor)
        vanishing = multiplied(p, vanishing, nought_at(p, place))
    return line


def value_at(p, line, place):
    """The value of a line at a number, nothing being checked."""
    result = 0
    for number in reversed(line):
        result = (result * place + number) % p
    return result


def mixed(p, one, other, factor):
    """The line one + factor other, nothing being checked (noughts may stand at their ends)."""
    sums = list(one) + [0] * (len(other) - len(one))
    for k, number in enumerate(other):
        sums[k] = (sums[k] + factor * number) % p
    return trimmed(sums)


def multiplied(p, one, other):
    """The line one times other, of whatever length, nothing being checked (noughts may stand at their ends)."""
    sums = [0] * (len(one) + len(other))
    for i, left in enumerate(one):
        for j, right in enumerate(other):
            sums[i + j] = (sums[i + j] + left * right) % p
    return trimmed(sums)


def nought_at(p, place):
    """The line x - place."""
    return (-place) % p, 1
