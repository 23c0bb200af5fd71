"""Flashes: when they come to seats and are sent from them, and what haps they tell."""

from seatclocks.errors import NoFlash, NoFraction, NoNumber, NoWay
from seatclocks.fractions import NOUGHT, ONE, by, fraction, is_fraction, is_less, is_whole, less, plus, times
from seatclocks.seats import check_fraction, check_seat, hap_by_clock, told_from, turned_back
from seatclocks.speeds import stretch_of, taken

HALF = (1, 2)
MOST_BEATS = 60
MOST_BOUNCES = 12


def without_sign(one):
    """Give a fraction without its sign."""
    return (abs(one[0]), one[1])


def comes_at(seat, hap):
    """Give the time of the seat's clock when a flash that is sent from the hap comes to it."""
    time, place = told_from(seat, hap)
    return plus(time, without_sign(place))


def sent_at(seat, hap):
    """Give the time of the seat's clock when a flash is to be sent that comes to the hap."""
    time, place = told_from(seat, hap)
    return less(time, without_sign(place))


def check_way(thing):
    """Refuse with NoWay what is neither 1 nor -1."""
    if not is_whole(thing) or abs(thing) != 1:
        raise NoWay("a way is 1 or -1")


def hap_by_flashes(seat, sent, come, way):
    """Give the hap, that way from the seat, that is reached by a flash that is sent and comes back at these times."""
    check_seat(seat)
    check_fraction(sent)
    check_fraction(come)
    check_way(way)
    if is_less(come, sent):
        raise NoFlash("a flash does not come back before it is sent")
    time = times(plus(sent, come), HALF)
    place = times(less(come, sent), HALF)
    return turned_back(seat, (time, times(fraction(way, 1), place)))


def check_gap(thing):
    """Refuse with NoFraction what is no fraction above nought."""
    if not is_fraction(thing) or not is_less(NOUGHT, thing):
        raise NoFraction("a gap is a fraction above nought")


def check_many(thing, most):
    """Refuse with NoNumber what is no whole number from one to the most."""
    if not is_whole(thing) or not 1 <= thing <= most:
        raise NoNumber("this is no whole number from 1 to so many")


def beats_come(one, other, time, gap, many):
    """Give the times of the other seat's clock when flashes come that the one sends, each the gap behind the last."""
    check_seat(one)
    check_seat(other)
    check_fraction(time)
    check_gap(gap)
    check_many(many, MOST_BEATS)
    sent = [plus(time, times((beat, 1), gap)) for beat in range(many)]
    return [comes_at(other, hap_by_clock(one, beat)) for beat in sent]


def stretch_between(one, other):
    """Give the stretch of two seats, 1 or above."""
    check_seat(one)
    check_seat(other)
    stretch = stretch_of(taken(other[0], one[0]))
    if is_less(stretch, ONE):
        return by(ONE, stretch)
    return stretch


def bounces(one, other, time, many):
    """Give the haps at which a flash that the one sends comes to the other, back to the one, and so on."""
    check_seat(one)
    check_seat(other)
    check_fraction(time)
    check_many(many, MOST_BOUNCES)
    hap = hap_by_clock(one, time)
    found = []
    for turn in range(many):
        seat = [other, one][turn % 2]
        hap = hap_by_clock(seat, comes_at(seat, hap))
        found.append(hap)
    return found
