"""Haps: tuples (time, place) of two fractions, as the first seat tells them; lists of haps and their numbers."""

from seatclocks.errors import NoHaps, NoNumber
from seatclocks.fractions import is_fraction, is_whole


def is_hap(thing):
    """Tell of anything whether it is a hap."""
    return isinstance(thing, tuple) and len(thing) == 2 and is_fraction(thing[0]) and is_fraction(thing[1])


def are_haps(thing, most):
    """Tell of anything whether it is a list of one hap or more, of no more than the most, no two the same."""
    if not isinstance(thing, list) or not 1 <= len(thing) <= most:
        return False
    return all([is_hap(hap) for hap in thing]) and len(set(thing)) == len(thing)


def check_haps(thing, most):
    """Refuse with NoHaps what is no such list."""
    if not are_haps(thing, most):
        raise NoHaps("this is no list of so many unlike haps")


def is_number(haps, thing):
    """Tell of anything whether it is the number of a hap of the list, counted from 0."""
    return is_whole(thing) and 0 <= thing < len(haps)


def check_numbers(haps, one, other):
    """Refuse with NoNumber what are no two unlike numbers of the list."""
    if not is_number(haps, one) or not is_number(haps, other) or one == other:
        raise NoNumber("these are no two unlike numbers of the list")
