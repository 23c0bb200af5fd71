"""Orders: what one hap is to another, and how haps stand by their times from seats."""

from itertools import combinations

from seatclocks.errors import NoOrder
from seatclocks.fractions import NOUGHT, ONE, by, is_less, is_whole, less, plus, rising, times
from seatclocks.haps import check_haps, is_number
from seatclocks.speeds import check_speed, plain_between

MOST_HAPS = 8
MINUS_ONE = (-1, 1)


def lapse_and_gap(one, other):
    """Give what the other hap's time is more than the one's, and likewise its place."""
    return (less(other[0], one[0]), less(other[1], one[1]))


def kind_of(one, other):
    """Tell what the other hap is to the one: `same`, `later`, `earlier` or `beside`."""
    if one == other:
        return "same"
    lapse, gap = lapse_and_gap(one, other)
    either_way = (abs(gap[0]), gap[1])
    if not is_less(lapse, either_way):
        return "later"
    if not is_less(less(NOUGHT, lapse), either_way):
        return "earlier"
    return "beside"


def even_speed(one, other):
    """Give the speed of the seat from which two haps beside one another are at one time; None of others."""
    if kind_of(one, other) != "beside":
        return None
    lapse, gap = lapse_and_gap(one, other)
    return by(lapse, gap)


def standing(haps, speed):
    """Give the numbers of the haps in their order from a speed, those together that are at one time."""
    # All times from one seat are these divided by its beat, which does not change how they stand.
    stand = [less(time, times(speed, place)) for time, place in haps]
    return [[at for at, other in enumerate(stand) if other == one] for one in rising(stand)]


def order_at(haps, speed):
    """Give the numbers of the haps in their order from a speed, those together that are at one time."""
    check_speed(speed)
    check_haps(haps, MOST_HAPS)
    return standing(haps, speed)


def turns(haps):
    """Give the speeds, rising, from which two haps that are beside one another are at one time."""
    check_haps(haps, MOST_HAPS)
    speeds = [even_speed(one, other) for one, other in combinations(haps, 2)]
    return rising([speed for speed in speeds if speed is not None])


def orders(haps):
    """Give all orders that seats tell, in the order of the speeds by which they are told."""
    borders = [MINUS_ONE] + turns(haps) + [ONE]
    # Between two turns no two haps change their places, so one speed there tells for all of them.
    speeds = [by(plus(low, high), (2, 1)) for low, high in zip(borders, borders[1:])]
    return [tuple([numbers[0] for numbers in standing(haps, speed)]) for speed in speeds]


def check_order(haps, thing):
    """Refuse with NoOrder what is no tuple of all numbers of the haps, each once."""
    whole = isinstance(thing, tuple) and all([is_whole(number) for number in thing])
    if not whole or sorted(thing) != list(range(len(haps))):
        raise NoOrder("an order is a tuple of all numbers of the haps, each once")


def pairs_of(numbers):
    """Give each two numbers of a tuple, the one that stands ahead first."""
    row = list(numbers)
    return list(combinations(row, 2))


def is_ahead_above(haps, i, j):
    """Tell whether hap i is ahead of hap j just from speeds above some bound, which is their even speed."""
    return kind_of(haps[i], haps[j]) == "beside" and is_less(haps[j][1], haps[i][1])


def bounds_of(haps, order):
    """Give the pairs of an order that stand so just from speeds above a bound, and those just from speeds below."""
    pairs = pairs_of(order)
    above = [(i, j) for i, j in pairs if is_ahead_above(haps, i, j)]
    below = [(i, j) for i, j in pairs if is_ahead_above(haps, j, i)]
    return (above, below)


def bound_of(haps, pair):
    """Give the bound of a pair of haps that are beside one another."""
    return even_speed(haps[pair[0]], haps[pair[1]])


def speed_for(haps, order):
    """Give some plain speed by which a seat tells the order, or None where no seat does."""
    if none_for(haps, order) is not None:
        return None
    above, below = bounds_of(haps, order)
    low = rising([MINUS_ONE] + [bound_of(haps, pair) for pair in above])[-1]
    high = rising([ONE] + [bound_of(haps, pair) for pair in below])[0]
    # The borders 1 and -1 are no speeds, but what lies a third of the way from either end is one.
    third = by(less(high, low), (3, 1))
    return plain_between(plus(low, third), less(high, third))


def none_for(haps, order):
    """Give some paper that shows that no seat tells the order, or None where some seat does."""
    check_haps(haps, MOST_HAPS)
    check_order(haps, order)
    for i, j in pairs_of(order):
        if kind_of(haps[j], haps[i]) == "later":
            return ("later", i, j)
    above, below = bounds_of(haps, order)
    for one in above:
        for other in below:
            if not is_less(bound_of(haps, one), bound_of(haps, other)):
                return ("bounds", *one, *other)
    return None


def shows_later(haps, order, i, j):
    """Tell whether i stands ahead of j in the order, though hap i is later than hap j."""
    return order.index(i) < order.index(j) and kind_of(haps[j], haps[i]) == "later"


def shows_bounds(haps, order, one, other):
    """Tell whether the one pair stands so above a bound, and the other one below a bound that is no greater."""
    above, below = bounds_of(haps, order)
    if one not in above or other not in below:
        return False
    return not is_less(bound_of(haps, one), bound_of(haps, other))


def shows_none(haps, order, thing):
    """Tell of anything whether it is a paper that shows that no seat tells the order."""
    check_haps(haps, MOST_HAPS)
    check_order(haps, order)
    if not isinstance(thing, tuple) or not all([is_number(haps, number) for number in thing[1:]]):
        return False
    if len(thing) == 3 and thing[0] == "later":
        return shows_later(haps, order, thing[1], thing[2])
    if len(thing) == 5 and thing[0] == "bounds":
        return shows_bounds(haps, order, thing[1:3], thing[3:])
    return False
