"""Fractions: tuples (top, bottom) of whole numbers in lowest terms, the bottom above 0."""

from math import gcd, isqrt, lcm

from seatclocks.errors import NoFraction

NOUGHT = (0, 1)
ONE = (1, 1)


def is_whole(thing):
    """Tell of anything whether it is a whole number."""
    # Python counts truths among its ints; here a truth is no whole number.
    return isinstance(thing, int) and not isinstance(thing, bool)


def is_fraction(thing):
    """Tell of anything whether it is a fraction."""
    if not isinstance(thing, tuple) or len(thing) != 2:
        return False
    top, bottom = thing
    return is_whole(top) and is_whole(bottom) and bottom > 0 and gcd(top, bottom) == 1


def fraction(top, bottom):
    """Give the fraction of one whole number by another one; NoFraction by 0."""
    if bottom == 0:
        raise NoFraction("there is no fraction by 0")
    divisor = gcd(top, bottom)
    # A divisor below 0 moves the sign of the bottom to the top.
    if bottom < 0:
        divisor = -divisor
    return (top // divisor, bottom // divisor)


def plus(one, other):
    """Give both fractions together."""
    return fraction(one[0] * other[1] + other[0] * one[1], one[1] * other[1])


def less(one, other):
    """Give the one fraction less the other one."""
    return fraction(one[0] * other[1] - other[0] * one[1], one[1] * other[1])


def times(one, other):
    """Give both fractions multiplied."""
    return fraction(one[0] * other[0], one[1] * other[1])


def by(one, other):
    """Give the one fraction divided by the other one; NoFraction by nought."""
    # Where the other one is nought, the bottom is 0 here, which fraction refuses.
    return fraction(one[0] * other[1], one[1] * other[0])


def is_less(one, other):
    """Tell whether the one fraction is less than the other one."""
    return one[0] * other[1] < other[0] * one[1]


def rising(ones):
    """Give the fractions of a list in their order, each once."""
    bottom = 1
    for one in ones:
        bottom = lcm(bottom, one[1])
    # Over one bottom the fractions stand as their tops do.
    tops = sorted(set([one[0] * (bottom // one[1]) for one in ones]))
    return [fraction(top, bottom) for top in tops]


def root_of(one):
    """Give the fraction, nought or above, that makes this one when multiplied with itself, or None."""
    if one[0] < 0:
        return None
    top = isqrt(one[0])
    bottom = isqrt(one[1])
    # In lowest terms a fraction is a square just where its top and its bottom both are,
    # and their roots have no more in common than they have.
    if top * top != one[0] or bottom * bottom != one[1]:
        return None
    return (top, bottom)
