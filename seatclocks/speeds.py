"""Speeds: fractions above -1 and below 1, which are how many lengths a beat."""

from math import isqrt

from seatclocks.errors import NoSpeed, NoStretch, NotPlain, TooMany
from seatclocks.fractions import NOUGHT, ONE, by, fraction, is_fraction, is_less, less, plus, root_of, times

MOST_TIMES = 60


def is_speed(thing):
    """Tell of anything whether it is a speed."""
    return is_fraction(thing) and abs(thing[0]) < thing[1]


def check_speed(thing):
    """Refuse with NoSpeed what is no speed."""
    if not is_speed(thing):
        raise NoSpeed("a speed is a fraction above -1 and below 1")


def together(one, other):
    """Give both speeds put together."""
    check_speed(one)
    check_speed(other)
    return by(plus(one, other), plus(ONE, times(one, other)))


def taken(one, other):
    """Give the speed that what moves with the one speed has from a seat that moves with the other one."""
    check_speed(one)
    check_speed(other)
    return by(less(one, other), less(ONE, times(one, other)))


def many_times(speed, often):
    """Give the speed put together so often with itself, below nought the other way; TooMany above 60 times."""
    check_speed(speed)
    if abs(often) > MOST_TIMES:
        raise TooMany("a speed is put together at most 60 times")
    step = speed
    if often < 0:
        step = less(NOUGHT, speed)
    whole = NOUGHT
    for _ in range(abs(often)):
        whole = together(whole, step)
    return whole


def times_to_pass(speed, other):
    """Give how often at least the speed, above nought, is put together to be above the other one; else TooMany."""
    check_speed(speed)
    check_speed(other)
    if not is_less(NOUGHT, speed):
        raise NoSpeed("the speed that is to pass is not above nought")
    whole = NOUGHT
    for often in range(MOST_TIMES + 1):
        if is_less(other, whole):
            return often
        whole = together(whole, speed)
    raise TooMany("it would be more than 60 times")


def beat_or_none(speed):
    """Give the beat of a speed, or None where it is no fraction."""
    return root_of(less(ONE, times(speed, speed)))


def is_plain(speed):
    """Tell whether a speed is plain."""
    check_speed(speed)
    return beat_or_none(speed) is not None


def check_plain(speed):
    """Refuse with NoSpeed what is no speed, then with NotPlain what is not plain."""
    if not is_plain(speed):
        raise NotPlain("the speed is not plain")


def beat_of(speed):
    """Give the beat of a plain speed; NotPlain of others."""
    check_plain(speed)
    return beat_or_none(speed)


def stretch_square(speed):
    """Give the stretch of a speed times itself, which is a fraction even where the speed is not plain."""
    return by(plus(ONE, speed), less(ONE, speed))


def stretch_of(speed):
    """Give the stretch of a plain speed; NotPlain of others."""
    check_plain(speed)
    return root_of(stretch_square(speed))


def speed_of(stretch):
    """Give the plain speed of a stretch; NoStretch of what is no fraction above nought."""
    if not is_fraction(stretch) or stretch[0] <= 0:
        raise NoStretch("a stretch is a fraction above nought")
    square = times(stretch, stretch)
    return by(less(square, ONE), plus(square, ONE))


def plain_between(one, other):
    """Give some plain speed above the one and below the other; NoSpeed where the one is not less."""
    check_speed(one)
    check_speed(other)
    if not is_less(one, other):
        raise NoSpeed("the first speed is not less than the second one")
    # Greater stretches have greater speeds, so the speed of any fraction between both stretches will do.
    low = stretch_square(one)
    high = stretch_square(other)
    apart = less(high, low)
    # The stretches lie further apart than their squares do, divided by twice a number above both of them.
    # By a bottom above 1 divided by that, there is a fraction between them.
    above = isqrt(high[0] // high[1]) + 1
    bottom = 2 * above * apart[1] // apart[0] + 1
    top = isqrt(bottom * bottom * low[0] // low[1]) + 1
    return speed_of(fraction(top, bottom))
