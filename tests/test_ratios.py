"""Tests of wagerroom.ratios: points 10 and 11."""

import itertools
import math
import unittest
from fractions import Fraction

from tests.helper import OTHER_KINDS, PromiseCase
from wagerroom import ratios
from wagerroom.errors import InvalidFractionError
from wagerroom.ratios import compare, fraction, is_valid_fraction, product, total

HUGE = 10 ** 40

VALID = (
    (0, 1),
    (1, 1),
    (-1, 1),
    (1, 2),
    (-1, 2),
    (2, 3),
    (-7, 3),
    (1000, 999),
    (1001, 1000),
    (1, 1001),
    (-1000, 1),
    (10 ** 13 - 1, 10 ** 12),
    (HUGE + 1, HUGE),
    (-HUGE - 1, HUGE),
    (2 ** 200, 3 ** 150),
)

NOT_FRACTIONS = OTHER_KINDS + (
    0,
    1,
    -3,
    (1,),
    (1, 2, 3),
    (1, 2, 1),
    (1, 2, None),
    [1, 2],
    [0, 1],
    (2, 4),
    (-2, 4),
    (3, 3),
    (6, 3),
    (0, 2),
    (0, 5),
    (0, 0),
    (1, 0),
    (-1, 0),
    (0, -1),
    (1, -1),
    (1, -2),
    (-1, -2),
    (True, 1),
    (False, 1),
    (1, True),
    (0, True),
    (True, True),
    (True, 2),
    (3, False),
    (None, None),
    (1, (2,)),
    ((1, 2), 1),
    (1, (1, 2)),
    {1: 2, 3: 4},
    "12",
    "(1, 2)",
    (2 * HUGE, HUGE),
    (HUGE, -1),
    (2 ** 200, 2 ** 199),
)

NOT_INTEGERS = (None, True, False, "", "1", (), (1,), (1, 2), [], [1], {}, {1: 1})

SAMPLE = tuple(
    (value.numerator, value.denominator)
    for value in sorted({Fraction(top, bottom) for top in range(-4, 5) for bottom in range(1, 5)})
)


def exact(pair):
    return Fraction(pair[0], pair[1])


def pair_of(value):
    value = Fraction(value)
    return (value.numerator, value.denominator)


class FractionValueTest(PromiseCase):
    """Point 10."""

    def test_fractions(self):
        for value in VALID:
            self.gives(True, is_valid_fraction, value)

    def test_other_values(self):
        for value in NOT_FRACTIONS:
            self.gives(False, is_valid_fraction, value)

    def test_all_small_pairs(self):
        for top in range(-30, 31):
            for bottom in range(-5, 31):
                wanted = bottom >= 1 and math.gcd(top, bottom) == 1
                self.gives(wanted, is_valid_fraction, (top, bottom))

    def test_zero_is_written_in_one_way(self):
        for bottom in range(-3, 1001):
            self.gives(bottom == 1, is_valid_fraction, (0, bottom))

    def test_common_divisor_of_large_integers(self):
        prime = 2 ** 127 - 1
        self.gives(True, is_valid_fraction, (prime, prime + 1))
        self.gives(False, is_valid_fraction, (6 * prime, 35 * prime))
        self.gives(True, is_valid_fraction, (6 * prime, 35))


class FractionTest(PromiseCase):
    """Point 11: fraction."""

    def test_examples(self):
        self.gives((-1, 2), fraction, 1, -2)
        self.gives((1, 2), fraction, -1, -2)
        self.gives((-1, 2), fraction, -3, 6)
        self.gives((2, 1), fraction, 4, 2)
        self.gives((5, 7), fraction, 5, 7)

    def test_zero(self):
        for bottom in (1, 2, 1000, -1, -6, HUGE, -HUGE):
            self.gives((0, 1), fraction, 0, bottom)

    def test_all_small_pairs(self):
        for top in range(-20, 21):
            for bottom in range(-20, 21):
                if bottom != 0:
                    self.gives(pair_of(Fraction(top, bottom)), fraction, top, bottom)

    def test_large_integers(self):
        self.gives((1, 10), fraction, 10 ** 12, 10 ** 13)
        self.gives((-9999999999999, 9999999999998), fraction, 9999999999999, -9999999999998)
        self.gives((-(HUGE + 1), HUGE), fraction, -3 * (HUGE + 1), 3 * HUGE)

    def test_bottom_zero(self):
        for top in (0, 1, -1, 1000, HUGE):
            self.refuses(InvalidFractionError, fraction, top, 0)

    def test_arguments_that_are_not_integers(self):
        for value in NOT_INTEGERS:
            self.refuses(InvalidFractionError, fraction, value, 1)
            self.refuses(InvalidFractionError, fraction, 1, value)
            self.refuses(InvalidFractionError, fraction, value, 0)
            self.refuses(InvalidFractionError, fraction, value, value)


class SumTest(PromiseCase):
    """Point 11: total and product."""

    def test_of_none(self):
        self.gives((0, 1), total)
        self.gives((1, 1), product)

    def test_of_one(self):
        for value in VALID:
            self.gives(value, total, value)
            self.gives(value, product, value)

    def test_examples(self):
        self.gives((1, 2), total, (1, 6), (1, 3))
        self.gives((0, 1), total, (1, 2), (-1, 2))
        self.gives((-5, 6), total, (-1, 2), (-1, 3))
        self.gives((1, 1), product, (2, 3), (3, 2))
        self.gives((0, 1), product, (0, 1), (5, 7))
        self.gives((-1, 3), product, (1, 2), (-2, 3))
        self.gives((1, 3), product, (-1, 2), (-2, 3))

    def test_of_two(self):
        for one, other in itertools.product(SAMPLE, repeat=2):
            self.gives(pair_of(exact(one) + exact(other)), total, one, other)
            self.gives(pair_of(exact(one) * exact(other)), product, one, other)

    def test_of_several_in_any_order(self):
        values = ((1, 2), (-2, 3), (5, 4), (-7, 1), (HUGE + 1, HUGE))
        summed = pair_of(sum(map(exact, values)))
        multiplied = pair_of(math.prod(map(exact, values)))
        for order in itertools.permutations(values):
            self.gives(summed, total, *order)
            self.gives(multiplied, product, *order)

    def test_of_many(self):
        values = [(1, bottom) for bottom in range(1, 121)]
        self.gives(pair_of(sum(map(exact, values))), total, *values)
        self.gives(pair_of(math.prod(map(exact, values))), product, *values)

    def test_of_equal_ones(self):
        self.gives((1, 1), total, (1, 3), (1, 3), (1, 3))
        self.gives((1, 27), product, (1, 3), (1, 3), (1, 3))

    def test_answers_can_be_passed_back(self):
        large = total(*VALID)
        self.gives(True, is_valid_fraction, large)
        self.gives((0, 1), total, large, (-large[0], large[1]))

    def test_arguments_that_are_not_fractions(self):
        for function in (total, product):
            for value in NOT_FRACTIONS:
                self.refuses(InvalidFractionError, function, value)
                for place in range(3):
                    arguments = [(1, 2), (0, 1), (-3, 2)]
                    arguments[place] = value
                    self.refuses(InvalidFractionError, function, *arguments)

    def test_a_list_of_fractions_is_not_several(self):
        for function in (total, product):
            self.refuses(InvalidFractionError, function, [(1, 2), (1, 3)])
            self.refuses(InvalidFractionError, function, ((1, 2), (1, 3)))


class CompareTest(PromiseCase):
    """Point 11: compare."""

    def test_all_small_fractions(self):
        for one, other in itertools.product(SAMPLE, repeat=2):
            wanted = (exact(one) > exact(other)) - (exact(one) < exact(other))
            self.gives(wanted, compare, one, other)

    def test_equal_ones(self):
        for value in VALID:
            self.gives(0, compare, value, value)

    def test_large_neighbours(self):
        for base in (999, 10 ** 12, HUGE):
            less = (base, base + 1)
            greater = (base + 1, base + 2)
            self.gives(-1, compare, less, greater)
            self.gives(1, compare, greater, less)
            self.gives(1, compare, (-base, base + 1), (-base - 1, base + 2))
            self.gives(-1, compare, (-base - 1, base + 2), (-base, base + 1))

    def test_arguments_that_are_not_fractions(self):
        for value in NOT_FRACTIONS:
            self.refuses(InvalidFractionError, compare, value, (1, 2))
            self.refuses(InvalidFractionError, compare, (1, 2), value)
            self.refuses(InvalidFractionError, compare, value, value)


class RatiosInterfaceTest(PromiseCase):

    def test_names_and_parameters(self):
        self.has_interface(ratios, {
            "is_valid_fraction": "(value)",
            "fraction": "(top, bottom)",
            "total": "(*fractions)",
            "product": "(*fractions)",
            "compare": "(one, other)",
        })


if __name__ == "__main__":
    unittest.main()
