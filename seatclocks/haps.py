"""Haps: tuples (time, place) of two fractions, as the first seat tells them."""

from seatclocks.fractions import is_fraction


def is_hap(thing):
    """Tell of anything whether it is a hap."""
    return isinstance(thing, tuple) and len(thing) == 2 and is_fraction(thing[0]) and is_fraction(thing[1])
