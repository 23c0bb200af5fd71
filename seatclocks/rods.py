"""Rods: tuples (speed, back, front) of a speed and the places of both ends at time nought."""

from seatclocks.errors import NoRod, NoSpeed
from seatclocks.fractions import NOUGHT, ONE, by, is_fraction, is_less, less, plus, times
from seatclocks.speeds import beat_of, check_speed, is_speed, taken


def are_places(near, far):
    """Tell of anything whether both are places, the near one the lesser."""
    return is_fraction(near) and is_fraction(far) and is_less(near, far)


def is_rod(thing):
    """Tell of anything whether it is a rod."""
    if not isinstance(thing, tuple) or len(thing) != 3:
        return False
    speed, back, front = thing
    return is_speed(speed) and are_places(back, front)


def is_gate(thing):
    """Tell of anything whether it is a gate."""
    return isinstance(thing, tuple) and len(thing) == 2 and are_places(thing[0], thing[1])


def check_rod(thing):
    """Refuse with NoRod what is no rod."""
    if not is_rod(thing):
        raise NoRod("a rod is a tuple of a speed and two places, the back and the front")


def check_gate(thing):
    """Refuse with NoRod what is no gate."""
    if not is_gate(thing):
        raise NoRod("a gate is a tuple of two places, the near and the far one")


def shortness(rod, speed):
    """Give 1 less the rod's speed times the speed: from the speed the rod is shorter the greater this is."""
    return less(ONE, times(rod[0], speed))


def rod_from(rod, speed):
    """Give the rod from a seat of the plain speed that is at time and place nought."""
    check_rod(rod)
    # Where the seat's clock tells nought the first seat's tells the speed times the place. So an end is there
    # at its place at time nought divided by the shortness, which the seat tells as the beat times that.
    part = by(beat_of(speed), shortness(rod, speed))
    return (taken(rod[0], speed), times(rod[1], part), times(rod[2], part))


def length_at_nought(rod):
    """Give how far the ends of a rod are from one another, front less back."""
    return less(rod[2], rod[1])


def length_from(rod, speed):
    """Give the length of the rod from a plain speed."""
    return length_at_nought(rod_from(rod, speed))


def own_length(rod):
    """Give the length of the rod from its own speed; NotPlain where that is not plain."""
    check_rod(rod)
    return length_from(rod, rod[0])


def is_no_longer(rod, other, speed):
    """Tell whether from a speed, plain or not, the rod is no longer than the other one."""
    check_rod(rod)
    check_rod(other)
    check_speed(speed)
    # Both lengths have the speed's beat in them, which need not be a fraction, so it is left out of both.
    length = by(length_at_nought(rod), shortness(rod, speed))
    return not is_less(by(length_at_nought(other), shortness(other, speed)), length)


def like_speed(rod, other):
    """Give the only speed from which both rods are as long, or None."""
    check_rod(rod)
    check_rod(other)
    length = length_at_nought(rod)
    other_length = length_at_nought(other)
    # As long are they where the one length times the other's shortness is the other length times the one's.
    change = less(times(length, other[0]), times(other_length, rod[0]))
    if change == NOUGHT:
        return None
    speed = by(less(length, other_length), change)
    if is_speed(speed):
        return speed
    return None


def time_when_at(end, speed, place):
    """Give when an end that moves with the speed is at the place."""
    return by(less(place, end), speed)


def gate_haps(rod, gate):
    """Give the haps of the hinder end at the gate's first place and of the foremost end at its other place."""
    check_rod(rod)
    check_gate(gate)
    speed, back, front = rod
    near, far = gate
    if speed == NOUGHT:
        raise NoSpeed("the rod does not move")
    back_hap = (time_when_at(back, speed, near), near)
    front_hap = (time_when_at(front, speed, far), far)
    # A rod that moves with a speed below nought comes to the far place first, its back ahead.
    if is_less(speed, NOUGHT):
        return (front_hap, back_hap)
    return (back_hap, front_hap)


def within(rod, gate):
    """Give the first and the last time when the rod lies within the gate, or None where it never does."""
    hinder, foremost = gate_haps(rod, gate)
    if is_less(foremost[0], hinder[0]):
        return None
    return (hinder[0], foremost[0])
