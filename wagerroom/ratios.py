"""Fractions: tuples (top, bottom) of integers in lowest terms."""

from wagerroom.errors import InvalidFractionError
from wagerroom.kinds import is_whole


def common_divisor(top, bottom):
    """Return the greatest common divisor of an integer and a positive one."""
    # Only top may be negative, and a remainder by a positive number never is,
    # so the result is positive without taking absolute values.
    while bottom != 0:
        top, bottom = bottom, top % bottom
    return top


def is_valid_fraction(value):
    """Return whether any value is a fraction, of whatever size."""
    if not isinstance(value, tuple) or len(value) != 2:
        return False
    top, bottom = value
    if not is_whole(top) or not is_whole(bottom):
        return False
    return bottom >= 1 and common_divisor(top, bottom) == 1


def check_fractions(values):
    """Raise InvalidFractionError if one of the values is not a fraction."""
    for value in values:
        if not is_valid_fraction(value):
            raise InvalidFractionError("not a tuple (top, bottom) in lowest terms")


def fraction(top, bottom):
    """Return the fraction of two integers, of which bottom is not 0."""
    if not is_whole(top) or not is_whole(bottom):
        raise InvalidFractionError("top and bottom must be integers")
    if bottom == 0:
        raise InvalidFractionError("bottom must not be 0")
    if bottom < 0:
        top, bottom = -top, -bottom
    divisor = common_divisor(top, bottom)
    return (top // divisor, bottom // divisor)


def total(*fractions):
    """Return the sum of the fractions, (0, 1) of none."""
    check_fractions(fractions)
    result = (0, 1)
    for added in fractions:
        top = result[0] * added[1] + added[0] * result[1]
        result = fraction(top, result[1] * added[1])
    return result


def product(*fractions):
    """Return the product of the fractions, (1, 1) of none."""
    check_fractions(fractions)
    result = (1, 1)
    for factor in fractions:
        result = fraction(result[0] * factor[0], result[1] * factor[1])
    return result


def compare(one, other):
    """Return -1, 0 or 1 as one is less than, equal to or greater than other."""
    check_fractions((one, other))
    left = one[0] * other[1]
    right = other[0] * one[1]
    if left < right:
        return -1
    if left > right:
        return 1
    return 0


def is_positive_fraction(value):
    """Return whether any value is a fraction above 0."""
    return is_valid_fraction(value) and value[0] > 0


def is_row(value, many):
    """Return whether any value is a tuple of so many fractions."""
    if not isinstance(value, tuple) or len(value) != many:
        return False
    return all([is_valid_fraction(entry) for entry in value])


def negative(one):
    """Return the fraction with the other sign."""
    return (-one[0], one[1])


def quotient(one, other):
    """Return one divided by other, which is not 0."""
    return fraction(one[0] * other[1], one[1] * other[0])


def shares(values):
    """Return the tuple of the fractions divided by their sum, which is not 0."""
    whole = total(*values)
    return tuple([quotient(value, whole) for value in values])


def total_at(values, places):
    """Return the sum of the fractions at these places."""
    picked = [values[place] for place in places]
    return total(*picked)


def total_of_products(values, factors, places):
    """Return the sum of value times factor over these places."""
    products = [product(values[place], factors[place]) for place in places]
    return total(*products)
