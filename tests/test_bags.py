"""Points [1] and [31]: bags and their products."""

import unittest

from pointsenough.bags import bag_product, bags_fooled, is_same_bag, packed
from pointsenough.errors import BadBag, BadNumber, BadPrime, TooGreat
from tests.support import (
    BIG, HUGE, PointCase, any_values, bad_tuples, numbers_for, wrong_numbers, wrong_primes,
)

PRIMES = (5, 7, 11, 10007, BIG)


def bag_for(p, seed, many):
    numbers = numbers_for(p, seed, 3 * many)
    return tuple(zip(numbers[::3], numbers[1::3], numbers[2::3]))


def turned(bag, seed):
    """The same triples in another order."""
    marks = numbers_for(1000, seed, len(bag))
    return tuple(bag[k] for k in sorted(range(len(bag)), key=lambda k: (marks[k], k)))


def plain_packed(p, triple, w):
    return (triple[0] + triple[1] * w + triple[2] * w ** 2) % p


def plain_product(p, bag, z, w):
    told = 1
    for triple in bag:
        told = told * (z - plain_packed(p, triple, w)) % p
    return told


def plain_fooled(p, one, other):
    return sum(plain_product(p, one, z, w) == plain_product(p, other, z, w) for z in range(p) for w in range(p))


def counted(bag):
    return sorted((triple, bag.count(triple)) for triple in bag)


def wrong_triples(p):
    """What is no triple of numbers by p, or of integers from 0 on where p is None."""
    told = [value for value in any_values() + bad_tuples() if not (isinstance(value, tuple) and len(value) == 3)]
    told += [0, 1, HUGE, (), (1, 2), (1, 2, 3, 4), [1, 2, 3], {1: 1, 2: 2, 3: 3}, "123", ((1, 2, 3),), (1, (2,), 3)]
    for wrong in any_values() + [-HUGE, -1] + ([] if p is None else [p, p + 1, HUGE]):
        told += [(wrong, 1, 2), (1, wrong, 2), (1, 2, wrong)]
    return told


def wrong_bags(p):
    """What is no bag of numbers by p, or of integers from 0 on where p is None."""
    told = [value for value in any_values() + bad_tuples() if value != ()]
    told += [0, 1, HUGE, (1, 2, 3), [(1, 2, 3)], {(1, 2, 3): 1}, ((1, 2, 3),) * 201, ((0, 0, 0),) * 300, [], {}]
    told += [(wrong,) for wrong in wrong_triples(p)] + [((1, 2, 3), wrong) for wrong in wrong_triples(p)]
    return told + [((1, 2, 3),) * 199 + ((1, 2, -1),), ((1, 2, 3),) * 199 + ((True, 2, 3),)]


class ExamplesTest(PointCase):
    def test_examples(self):
        self.tells(True, is_same_bag, ((0, 1, 2), (3, 4, 5)), ((3, 4, 5), (0, 1, 2)))
        self.tells(6, packed, 11, (1, 2, 3), 2)
        self.tells(2, bag_product, 11, ((1, 2, 3),), 8, 2)
        self.tells(0, bags_fooled, 5, ((0, 0, 0),), ((1, 0, 0),))
        self.tells(5, bags_fooled, 5, ((0, 1, 0),), ((0, 0, 0),))


class SameBagTest(PointCase):
    def test_in_any_order(self):
        for many in (0, 1, 2, 3, 10, 200):
            for seed in range(4):
                bag = bag_for(7, seed, many)
                self.tells(True, is_same_bag, bag, turned(bag, seed))
                self.tells(True, is_same_bag, turned(bag, seed + 1), bag)

    def test_each_as_often(self):
        a, b = (1, 2, 3), (3, 2, 1)
        self.tells(True, is_same_bag, (a, a, b), (a, b, a))
        self.tells(False, is_same_bag, (a, a, b), (a, b, b))
        self.tells(False, is_same_bag, (a, a), (a,))
        self.tells(False, is_same_bag, (a,), ())
        self.tells(False, is_same_bag, (a,), (b,))
        self.tells(True, is_same_bag, (a,) * 200, (a,) * 200)
        self.tells(False, is_same_bag, (a,) * 200, (a,) * 199)

    def test_drawn_ones(self):
        for seed in range(200):
            one, other = bag_for(2, seed, seed % 5), bag_for(2, seed + 1000, seed % 5)
            self.tells(counted(one) == counted(other), is_same_bag, one, other)
            if one:
                changed = turned(one, seed)[:-1] + ((one[0][0] + 1,) + one[0][1:],)
                self.tells(counted(one) == counted(changed), is_same_bag, one, changed)

    def test_integers_from_nought_on(self):
        for number in (0, 5, BIG, HUGE):
            self.tells(True, is_same_bag, ((number, 1, number),), ((number, 1, number),))
        self.tells(False, is_same_bag, ((HUGE, 1, 2),), ((HUGE - 1, 1, 2),))
        # They are no numbers by a prime: 7 and 0 are unlike.
        self.tells(False, is_same_bag, ((7, 0, 0),), ((0, 0, 0),))

    def test_what_is_no_bag(self):
        for wrong in wrong_bags(None):
            self.tells(False, is_same_bag, wrong, wrong)
            self.tells(False, is_same_bag, wrong, ())
            self.tells(False, is_same_bag, (), wrong)
        self.tells(False, is_same_bag, ((1, 2, 3),) * 201, ((1, 2, 3),) * 201)
        self.tells(False, is_same_bag, ((True, 1, 2),), ((1, 1, 2),))
        self.tells(False, is_same_bag, ((0, False, 2),), ((0, 0, 2),))
        self.tells(True, is_same_bag, (), ())


class PackedTest(PointCase):
    def test_drawn_ones(self):
        for p in PRIMES:
            for seed in range(6):
                triple = numbers_for(p, seed, 3)
                for w in (0, 1, 2, p - 1) + numbers_for(p, seed + 30, 2):
                    self.tells(plain_packed(p, triple, w), packed, p, triple, w)

    def test_edges(self):
        self.tells(4, packed, 5, (4, 3, 2), 0)
        self.tells(4, packed, 5, (4, 3, 2), 1)
        self.tells((4 - 3 + 2) % 5, packed, 5, (4, 3, 2), 4)

    def test_wrong_inputs(self):
        for p in wrong_primes():
            self.fails(BadPrime, {}, packed, p, (1, 2, 3), 1)
        for p in (5, 7, BIG):
            for triple in wrong_triples(p):
                self.fails(BadBag, {}, packed, p, triple, 1)
            for w in wrong_numbers(p):
                self.fails(BadNumber, {}, packed, p, (1, 2, 3), w)


class BagProductTest(PointCase):
    def test_drawn_ones(self):
        for p in PRIMES:
            for many in (0, 1, 2, 5, 200):
                bag = bag_for(p, many, many)
                for seed in range(4):
                    z, w = numbers_for(p, seed, 2)
                    self.tells(plain_product(p, bag, z, w), bag_product, p, bag, z, w)
                    self.assertEqual(bag_product(p, turned(bag, seed), z, w), bag_product(p, bag, z, w))

    def test_edges(self):
        for p in PRIMES:
            self.tells(1, bag_product, p, (), 0, 0)
            self.tells(1, bag_product, p, (), p - 1, p - 1)
            self.tells(0, bag_product, p, ((1, 2, 3), (0, 0, 0)), 6 % p, 1)
        self.tells(pow(2, 200, 7), bag_product, 7, ((1, 2, 3),) * 200, 3, 0)

    def test_wrong_inputs(self):
        for p in wrong_primes():
            self.fails(BadPrime, {}, bag_product, p, ((1, 2, 3),), 1, 2)
        for p in (5, 7, BIG):
            for bag in wrong_bags(p):
                self.fails(BadBag, {}, bag_product, p, bag, 1, 2)
            for number in wrong_numbers(p):
                self.fails(BadNumber, {}, bag_product, p, ((1, 2, 3),), number, 2)
                self.fails(BadNumber, {}, bag_product, p, ((1, 2, 3),), 2, number)


class BagsFooledTest(PointCase):
    def test_drawn_ones(self):
        for p in (5, 7, 11):
            for many in range(5):
                for seed in range(6):
                    one, other = bag_for(p, seed, many), bag_for(p, seed + 500, many)
                    self.tells(plain_fooled(p, one, other), bags_fooled, p, one, other)
                    if counted(one) != counted(other):
                        self.assertLessEqual(bags_fooled(p, one, other), 2 * many * p)

    def test_unlike_bags_of_few_triples(self):
        triples = [(a, b, c) for a in (0, 1) for b in (0, 3) for c in (0, 4)]
        for one in triples:
            for other in triples:
                fooled = bags_fooled(5, (one,), (other,))
                self.assertEqual(fooled, plain_fooled(5, (one,), (other,)))
                if one == other:
                    self.assertEqual(fooled, 25)
                else:
                    self.assertLessEqual(fooled, 2 * 5)
                self.assertLessEqual(bags_fooled(5, (one, other), (other, other)), 25 if one == other else 2 * 2 * 5)

    def test_bags_of_unlike_sizes(self):
        for sizes in ((0, 1), (1, 3), (4, 2), (0, 6)):
            one, other = bag_for(11, 3, sizes[0]), bag_for(11, 4, sizes[1])
            self.tells(plain_fooled(11, one, other), bags_fooled, 11, one, other)
            self.assertLessEqual(bags_fooled(11, one, other), 2 * max(sizes) * 11)

    def test_like_bags_fool_everywhere(self):
        for p in (5, 7, 11):
            for many in (0, 1, 4):
                bag = bag_for(p, many, many)
                self.tells(p * p, bags_fooled, p, bag, turned(bag, 3))

    def test_the_greatest_prime(self):
        one, other = ((1, 2, 3), (4, 5, 100)), ((1, 2, 3), (4, 5, 99))
        self.tells(plain_fooled(101, one, other), bags_fooled, 101, one, other)
        for p in (103, 107, 10007, BIG):
            self.fails(TooGreat, {"most": 101}, bags_fooled, p, one, other)
            self.fails(TooGreat, {"most": 101}, bags_fooled, p, (), ())

    def test_many_triples(self):
        one = bag_for(5, 1, 200)
        self.tells(25, bags_fooled, 5, one, turned(one, 2))
        other = one[:-1] + (((one[-1][0] + 1) % 5,) + one[-1][1:],)
        self.tells(plain_fooled(5, one, other), bags_fooled, 5, one, other)

    def test_wrong_inputs(self):
        for p in wrong_primes():
            self.fails(BadPrime, {}, bags_fooled, p, (), ())
        for p in (5, 101, BIG):
            for bag in wrong_bags(p):
                self.fails(BadBag, {}, bags_fooled, p, bag, ())
                self.fails(BadBag, {}, bags_fooled, p, (), bag)


BAD_P = (None, True, "7", 9, 3, [7], HUGE)
BAD_TRIPLE = (None, (), (1, 2), (1, 2, 7), [1, 2, 3], (True, 1, 2), "123", ((1, 2, 3),), 1)
BAD_BAG = (None, (1, 2, 3), [(1, 2, 3)], ((1, 2, 7),), ((1, 2),), ([1, 2, 3],), ((1, 2, 3),) * 201, {(1, 2, 3): 1}, 1)
BAD_NUMBER = (None, True, 7, -1, "1", (1,), [1], HUGE)
BAG = ((1, 2, 3), (4, 5, 6))
CALLS = (
    (packed, (7, (1, 2, 3), 4), ((BAD_P, "BadPrime"), (BAD_TRIPLE, "BadBag"), (BAD_NUMBER, "BadNumber"))),
    (bag_product, (7, BAG, 3, 4), (
        (BAD_P, "BadPrime"), (BAD_BAG, "BadBag"), (BAD_NUMBER, "BadNumber"), (BAD_NUMBER, "BadNumber"))),
    (bags_fooled, (7, BAG, ()), ((BAD_P, "BadPrime"), (BAD_BAG, "BadBag"), (BAD_BAG, "BadBag"))),
    (is_same_bag, (BAG, ()), ((BAD_BAG, None), (BAD_BAG, None))),
)


class OrderTest(PointCase):
    def test_several_wrong_arguments(self):
        self.first_errors(CALLS)

    def test_at_last(self):
        self.fails(BadBag, {}, bags_fooled, BIG, BAG, ((1, 2),))
        self.fails(BadBag, {}, bags_fooled, BIG, ((1, 2),), BAG)
        self.fails(TooGreat, {"most": 101}, bags_fooled, BIG, BAG, BAG)

    def test_nothing_is_left_behind(self):
        self.nothing_left_behind(CALLS)
        self.same_backward([(function, right) for function, right, _ in CALLS])


if __name__ == "__main__":
    unittest.main()
