"""Ways: what own time clocks show that go from hap to hap."""

from seatclocks.errors import NoStep, NotPlain
from seatclocks.fractions import NOUGHT, is_fraction, is_less, less, plus, rising, root_of, times
from seatclocks.haps import check_haps, check_numbers, is_hap
from seatclocks.orders import kind_of, lapse_and_gap

MOST_HAPS = 8
LONGEST_WAY = 12


def own_square(one, other):
    """Give the lapse of two haps times itself less their gap times itself."""
    lapse, gap = lapse_and_gap(one, other)
    return less(times(lapse, lapse), times(gap, gap))


def is_step(one, other):
    """Tell of anything whether both are haps, the other one later than the one."""
    return is_hap(one) and is_hap(other) and kind_of(one, other) == "later"


def own_time(one, other):
    """Give what a clock shows that goes straight from the one hap to the other; NoStep, then NotPlain."""
    if not is_step(one, other):
        raise NoStep("a step goes from a hap to a later one")
    own = root_of(own_square(one, other))
    if own is None:
        raise NotPlain("the own time of the step is no fraction")
    return own


def check_way(thing):
    """Refuse with NoStep what is no list of two to twelve haps, each behind the first later than the one ahead."""
    if not isinstance(thing, list) or not 2 <= len(thing) <= LONGEST_WAY:
        raise NoStep("a way is a list of two to twelve haps")
    if not all([is_step(one, other) for one, other in zip(thing, thing[1:])]):
        raise NoStep("each hap of a way but the first one is later than the one ahead")


def together_of(ones):
    """Give all fractions of a list together."""
    whole = NOUGHT
    for one in ones:
        whole = plus(whole, one)
    return whole


def own_along(way):
    """Give the own time along a way: that of its steps together; NoStep, then NotPlain."""
    # All of the way is looked at before any of its own times: what is no way is no step, plain steps or not.
    check_way(way)
    return together_of([own_time(one, other) for one, other in zip(way, way[1:])])


def plain_steps(haps):
    """Give the own time of each plain step between two haps of the list, by their numbers."""
    steps = {}
    for i, one in enumerate(haps):
        for j, other in enumerate(haps):
            own = root_of(own_square(one, other))
            if own is not None and kind_of(one, other) == "later":
                steps[(i, j)] = own
    return steps


def all_ways(haps, start, end):
    """Give each way of plain steps through haps of the list, as its own time and the numbers of its haps."""
    steps = plain_steps(haps)
    found = []
    begun = [(NOUGHT, (start,))]
    # Each step goes to a later hap, so no way comes back and all of them end.
    while begun:
        own, numbers = begun.pop()
        if numbers[-1] == end:
            found.append((own, numbers))
        else:
            begun.extend([(plus(own, steps[i, j]), numbers + (j,)) for i, j in steps if i == numbers[-1]])
    return found


def best_way(haps, start, end, rank):
    """Give the own time of that rank among those that ways take, and the least of its ways, or None without a way."""
    check_haps(haps, MOST_HAPS)
    check_numbers(haps, start, end)
    ways = all_ways(haps, start, end)
    if ways == []:
        return None
    best = rising([own for own, numbers in ways])[rank]
    return (best, min([numbers for own, numbers in ways if own == best]))


def most_way(haps, start, end):
    """Give the most own time that a way of plain steps takes, and the least of those ways, or None."""
    return best_way(haps, start, end, -1)


def least_way(haps, start, end):
    """Give the least own time that a way of plain steps takes, and the least of those ways, or None."""
    return best_way(haps, start, end, 0)


def marks_for(haps, start, end):
    """Give some marks that show the most own time from the first hap to the second one, or None without a way."""
    if most_way(haps, start, end) is None:
        return None
    steps = plain_steps(haps)
    # No way takes more than all steps together. So much below the first hap the others begin: then none that
    # goes to it lifts its mark, and the second one's is lifted most by a way from the first one.
    marks = [less(NOUGHT, together_of(list(steps.values())))] * len(haps)
    marks[start] = NOUGHT
    for _ in haps:
        for i, j in steps:
            marks[j] = rising([marks[j], plus(marks[i], steps[i, j])])[-1]
    return tuple(marks)


def are_marks(haps, thing):
    """Tell of anything whether it is a tuple with a fraction for each hap."""
    return isinstance(thing, tuple) and len(thing) == len(haps) and all([is_fraction(mark) for mark in thing])


def shows_most(haps, start, end, own, thing):
    """Tell of anything whether as marks it shows that no way takes more than the own time."""
    check_haps(haps, MOST_HAPS)
    check_numbers(haps, start, end)
    if not is_fraction(own) or not are_marks(haps, thing):
        return False
    if thing[start] != NOUGHT or thing[end] != own:
        return False
    steps = plain_steps(haps)
    return not any([is_less(thing[j], plus(thing[i], steps[i, j])) for i, j in steps])
