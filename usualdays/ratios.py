"""Whole numbers, and ratios as tuples (top, bottom) in lowest terms."""

from math import gcd

from usualdays.errors import BadRatio


def is_number(thing):
    """Tell whether a thing is a whole number, no bool, of any size."""
    return isinstance(thing, int) and not isinstance(thing, bool)


def is_whole(thing, low, high):
    """Tell whether a thing is a whole number, no bool, from low to high."""
    return is_number(thing) and low <= thing <= high


def ratio(top, bottom):
    """Return the ratio of two whole numbers."""
    if bottom == 0:
        raise BadRatio()
    if bottom < 0:
        return ratio(-top, -bottom)
    shared = gcd(top, bottom)
    return (top // shared, bottom // shared)


def compare_ratios(one, other):
    """Return -1, 0 or 1 as the first ratio is less than, equal to or greater than the second."""
    left = one[0] * other[1]
    right = other[0] * one[1]
    if left < right:
        return -1
    if left > right:
        return 1
    return 0


def ratio_sum(one, other):
    """Return the sum of two ratios."""
    return ratio(one[0] * other[1] + other[0] * one[1], one[1] * other[1])


def ratio_product(one, other):
    """Return the product of two ratios."""
    return ratio(one[0] * other[0], one[1] * other[1])
