"""Bags of triples, and the products by which two bags are compared."""

from pointsenough.errors import BadBag, TooGreat
from pointsenough.numbers import need_number, need_prime, so_many_wholes

MOST_TRIPLES = 200
GREATEST_TRIED = 101


def is_same_bag(one, other):
    """Whether any two values are bags of integers from 0 on that have the same triples, each as often."""
    return fits_bag(None, one) and fits_bag(None, other) and sorted(one) == sorted(other)


def packed(p, triple, w):
    """The number cell + value w + time w w of a triple."""
    need_prime(p)
    if not fits_triple(p, triple):
        raise BadBag()
    need_number(p, w)
    return packed_at(p, triple, w)


def bag_product(p, bag, z, w):
    """The product of z - packed over a bag's triples."""
    need_prime(p)
    need_bag(p, bag)
    need_number(p, z)
    need_number(p, w)
    return bag_product_at(p, bag, z, w)


def bags_fooled(p, one, other):
    """At how many of all pairs (z, w) the products of two bags are alike."""
    need_prime(p)
    need_bag(p, one)
    need_bag(p, other)
    if p > GREATEST_TRIED:
        raise TooGreat(GREATEST_TRIED)
    fooled = 0
    for w in range(p):
        left = [packed_at(p, triple, w) for triple in one]
        right = [packed_at(p, triple, w) for triple in other]
        fooled += len([z for z in range(p) if product_at(p, left, z) == product_at(p, right, z)])
    return fooled


def fits_triple(p, triple):
    """Whether any value is a triple of numbers, or of integers from 0 on where p is None."""
    return so_many_wholes(p, triple, 3)


def fits_bag(p, bag):
    """Whether any value is a bag of numbers, or of integers from 0 on where p is None."""
    if not isinstance(bag, tuple) or len(bag) > MOST_TRIPLES:
        return False
    return all([fits_triple(p, triple) for triple in bag])


def need_bag(p, bag):
    """Raise BadBag for any value that is no bag of numbers."""
    if not fits_bag(p, bag):
        raise BadBag()


def packed_at(p, triple, w):
    """The number of a triple, nothing being checked."""
    cell, value, time = triple
    return (cell + (value + time * w) * w) % p


def bag_product_at(p, bag, z, w):
    """The product of z - packed over a bag's triples, nothing being checked."""
    return product_at(p, [packed_at(p, triple, w) for triple in bag], z)


def product_at(p, numbers, z):
    """The product of z - number over a list of numbers."""
    result = 1
    for number in numbers:
        result = result * (z - number) % p
    return result
