"""Integers, primes, numbers by a prime, and shares."""

from math import gcd

from pointsenough.errors import BadNumber, BadPrime, Nought

LEAST_PRIME = 5
GREATEST_PRIME = 2147483647
# The least composite that none of these four shows up is 3215031751, beyond all that is asked.
WITNESSES = (2, 3, 5, 7)


def is_prime(value):
    """Whether any value is a prime from 5 to 2 ** 31 - 1."""
    if not in_bounds(value, LEAST_PRIME, GREATEST_PRIME):
        return False
    for witness in WITNESSES:
        if value % witness == 0:
            return value == witness
    return all([looks_prime(value, witness) for witness in WITNESSES])


def inverse(p, number):
    """The number that times this one gives 1."""
    need_prime(p)
    need_number(p, number)
    if number == 0:
        raise Nought()
    return inverse_of(p, number)


def power(p, number, times):
    """The number taken so many times as a factor."""
    need_prime(p)
    need_number(p, number)
    if not in_bounds(times, 0, None):
        raise BadNumber()
    return raised(p, number, times)


def in_bounds(value, low, high):
    """Whether any value is an integer from low to high, without an upper bound where high is None."""
    if not isinstance(value, int) or isinstance(value, bool):
        return False
    return low <= value and (high is None or value <= high)


def all_numbers(p, value, most):
    """Whether any value is a tuple of at most so many numbers."""
    if not isinstance(value, tuple) or len(value) > most:
        return False
    return all([in_bounds(item, 0, p - 1) for item in value])


def so_many_numbers(p, value, many):
    """Whether any value is a tuple of just so many numbers."""
    return all_numbers(p, value, many) and len(value) == many


def so_many_wholes(p, value, many):
    """Whether any value is a tuple of just so many numbers, or of integers from 0 on where p is None."""
    if not isinstance(value, tuple) or len(value) != many:
        return False
    most = None if p is None else p - 1
    return all([in_bounds(item, 0, most) for item in value])


def ascends(items):
    """Whether each item of a list or tuple is greater than the one ahead of it."""
    return all([one < other for one, other in zip(items, items[1:])])


def need_prime(p):
    """Raise BadPrime for any value that is no prime."""
    if not is_prime(p):
        raise BadPrime()


def need_number(p, value):
    """Raise BadNumber for any value that is no number."""
    if not in_bounds(value, 0, p - 1):
        raise BadNumber()


def raised(modulus, number, times):
    """The number to the power times, by a modulus above 1, nothing being checked."""
    result = 1
    square = number
    while times > 0:
        if times % 2 == 1:
            result = result * square % modulus
        square = square * square % modulus
        times //= 2
    return result


def inverse_of(p, number):
    """The inverse of a number other than 0, nothing being checked."""
    # By a prime each number other than 0 to the power p - 1 is 1.
    return raised(p, number, p - 2)


def looks_prime(odd, witness):
    """Whether an odd integer behaves as a prime when powers of the witness are taken by it."""
    part = odd - 1
    halvings = 0
    while part % 2 == 0:
        part //= 2
        halvings += 1
    root = raised(odd, witness, part)
    if root == 1:
        return True
    # By a prime 1 has only the square roots 1 and -1, so -1 must come ahead of the first 1.
    for _ in range(halvings):
        if root == odd - 1:
            return True
        root = root * root % odd
    return False


def share(top, bottom):
    """The share of two integers, the bottom one above 0."""
    divisor = gcd(top, bottom)
    return top // divisor, bottom // divisor


def loss_of(p, degrees):
    """1 less the product of 1 - m / p over the degrees, m being the lesser one of the degree and p - 1."""
    kept = 1
    everything = 1
    for degree in degrees:
        kept *= p - min(degree, p - 1)
        everything *= p
    return share(everything - kept, everything)
