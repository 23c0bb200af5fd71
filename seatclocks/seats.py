"""Seats: tuples (speed, hap) of a plain speed and the hap at which the seat's clock tells nought."""

from seatclocks.errors import NoFraction, NoHap, NoSeat
from seatclocks.fractions import NOUGHT, by, is_fraction, less, plus, times
from seatclocks.haps import is_hap
from seatclocks.speeds import beat_of, is_plain, is_speed, taken, together


def is_seat(thing):
    """Tell of anything whether it is a seat."""
    if not isinstance(thing, tuple) or len(thing) != 2:
        return False
    speed, hap = thing
    return is_speed(speed) and is_plain(speed) and is_hap(hap)


def check_seat(thing):
    """Refuse with NoSeat what is no seat."""
    if not is_seat(thing):
        raise NoSeat("a seat is a tuple of a plain speed and a hap")


def check_hap(thing):
    """Refuse with NoHap what is no tuple of two fractions."""
    if not is_hap(thing):
        raise NoHap("a hap is a tuple of two fractions")


def check_fraction(thing):
    """Refuse with NoFraction what is no fraction."""
    if not is_fraction(thing):
        raise NoFraction("this is no fraction")


def seen_from(speed, lapse, gap):
    """Give the time and the place that a lapse and a gap make from a seat of the speed."""
    beat = beat_of(speed)
    time = by(less(lapse, times(speed, gap)), beat)
    place = by(less(gap, times(speed, lapse)), beat)
    return (time, place)


def told_from(seat, hap):
    """Give the time and the place that a hap has from the seat."""
    check_seat(seat)
    check_hap(hap)
    speed, own = seat
    return seen_from(speed, less(hap[0], own[0]), less(hap[1], own[1]))


def turned_back(seat, told):
    """Give the hap that has the told time and place from the seat."""
    check_seat(seat)
    check_hap(told)
    speed, own = seat
    # From the seat the first seat moves with the speed the other way.
    lapse, gap = seen_from(less(NOUGHT, speed), told[0], told[1])
    return (plus(own[0], lapse), plus(own[1], gap))


def seat_from(seat, other):
    """Give the other seat as the seat tells it."""
    check_seat(seat)
    check_seat(other)
    return (taken(other[0], seat[0]), told_from(seat, other[1]))


def seat_by(seat, told):
    """Give the seat that the seat tells so."""
    check_seat(seat)
    check_seat(told)
    return (together(told[0], seat[0]), turned_back(seat, told[1]))


def hap_by_clock(seat, time):
    """Give the hap at which the seat is when its clock tells the time."""
    check_seat(seat)
    check_fraction(time)
    return turned_back(seat, (time, NOUGHT))


def clock_at(seat, time):
    """Give what the seat's clock tells when the first seat's clock tells the time."""
    check_seat(seat)
    check_fraction(time)
    speed, own = seat
    return times(less(time, own[0]), beat_of(speed))


def place_at(seat, time):
    """Give the place where the seat is when the first seat's clock tells the time."""
    check_seat(seat)
    check_fraction(time)
    speed, own = seat
    return plus(own[1], times(speed, less(time, own[0])))


def meeting(one, other):
    """Give the hap at which both seats are, or None where their speeds are alike."""
    check_seat(one)
    check_seat(other)
    if one[0] == other[0]:
        return None
    ahead = less(place_at(other, NOUGHT), place_at(one, NOUGHT))
    time = by(ahead, less(one[0], other[0]))
    return (time, place_at(one, time))
