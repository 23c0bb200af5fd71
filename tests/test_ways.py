import itertools
import math
import unittest
from fractions import Fraction

from samples import (
    EIGHT_ASUNDER, EVEN, FLASH, FORTY, FRACTIONS, HAP_LISTS, HAPS, LONG_HAPS, LONG_PLAIN, PLAIN, Case, chance_haps,
    ended_quick, haps_at, kind_by_standard, lapse_and_gap, nested, no_fractions, no_hap_lists, no_haps, other_things, parted,
    standard,
)
from seatclocks.errors import NoHaps, NoNumber, NoStep, NotPlain
from seatclocks.fractions import is_less, less, plus
from seatclocks.seats import told_from
from seatclocks.ways import least_way, marks_for, most_way, own_along, own_square, own_time, shows_most

FORKS = haps_at([(0, 0), (5, 3), (5, -3), (10, 0), (10, 10), (5, 0), (9, 1), (-5, 4)])
STILL = haps_at([(at, 0) for at in range(8)])
TURNED = haps_at([(at, 7) for at in [3, 0, 6, 1, 7, 2, 5, 4]])
# Four haps at the ends of two flashes crossed, and haps along a moving clock.
CROSSED = haps_at([(0, 0), (2, 2), (2, -2), (4, 0)])
MOVING = haps_at([(5 * at, 3 * at) for at in [2, 0, 3, 1]] + [(8, 0), (16, 0)])
LONG_STEPS = haps_at([(0, 0), (FORTY, 0), (Fraction(5 * FORTY, 4), Fraction(3 * FORTY, 4)), (Fraction(1, FORTY), Fraction(-1, FORTY))])
LISTS = [FORKS, list(reversed(FORKS)), STILL, TURNED, CROSSED, MOVING, LONG_STEPS, FLASH, EVEN, EIGHT_ASUNDER, LONG_HAPS]
LISTS += HAP_LISTS[:11] + [chance_haps(500 + seed, 3 + seed % 6, 2 + seed % 4) for seed in range(40)]
SQUARE_STEPS = [(0, 0, 1, 0, 1), (0, 0, 5, 3, 4), (0, 0, 5, -4, 3), (1, 2, 14, -3, 12), (-1, 4, 2, 7, 0), (3, 3, 5, 1, 0),
                (0, 0, Fraction(5, 7), Fraction(4, 7), Fraction(3, 7)), (0, 0, FORTY, FORTY, 0), (0, 0, 5 * FORTY, 3 * FORTY, 4 * FORTY)]


def own_by_standard(one, other):
    """The own time from a hap to another one, or None where there is no plain step."""
    if kind_by_standard(one, other) != "later":
        return None
    lapse, gap = lapse_and_gap(one, other)
    square = lapse * lapse - gap * gap
    root = Fraction(math.isqrt(square.numerator), math.isqrt(square.denominator))
    return root if root * root == square else None


def steps_by_standard(haps):
    """The own time of each plain step, by its two numbers."""
    told = {(i, j): own_by_standard(haps[i], haps[j]) for i, j in itertools.permutations(range(len(haps)), 2)}
    return {pair: own for pair, own in told.items() if own is not None}


def ways_by_standard(haps, start, end):
    """Each way of plain steps, as its own time and its numbers: each choice of haps between is tried in each turn."""
    steps, found, begun = steps_by_standard(haps), [], [(Fraction(0), (start,))]
    for own, numbers in begun:
        if numbers[-1] == end:
            found.append((own, numbers))
        begun += [(own + steps[pair], numbers + pair[1:]) for pair in steps if pair[0] == numbers[-1]]
    return found


def best_by_standard(ways, choose):
    """The own time that is chosen of ways, and the least of the ways that take so much."""
    if not ways:
        return None
    best = choose(own for own, numbers in ways)
    return (parted(best), min(numbers for own, numbers in ways if own == best))


def shows_by_standard(haps, start, end, own, marks):
    """Whether marks, a tuple of as many fractions as haps, show the own time, as the document tells it."""
    known = [standard(mark) for mark in marks]
    held = all(known[j] >= known[i] + step for (i, j), step in steps_by_standard(haps).items())
    return known[start] == 0 and known[end] == standard(own) and held


def no_steps():
    """Pairs of which the one or the other is no hap, or the other one is not later."""
    pairs = [(thing, HAPS[1]) for thing in no_haps()] + [(HAPS[0], thing) for thing in no_haps()]
    pairs += [(one, other) for one in HAPS for other in HAPS if kind_by_standard(one, other) != "later"]
    return pairs + [(None, None), (thing := other_things()[-1], thing)]


def no_ways():
    """Things that are no way, though some are nearly one."""
    way = STILL[:3]
    long_way = haps_at([(at, 0) for at in range(13)])
    return [
        [], STILL[:1], long_way, long_way + haps_at([(13, 0)]), tuple(way), {0: way[0], 1: way[1]}, {way[0]: way[1]}, way[0],
        "0@0 1@0", ["0@0", "1@0"], [way], (way,), [way[1], way[0]], [way[0], way[0]], way + way[2:], way + way[:1],
        way + [None], [None] + way, way[:1] + [(1, 0)] + way[1:], way + [list(STILL[3])], way + [((3, 1), [0, 1])],
        way + [((6, 2), (0, 1))], way + [((3, True), (0, 1))], way + [[]], way + [{}], way + [nested("list", 58)],
        [way[0], ((1, 1), (2, 1))], [((0, 1), (0, 1)), ((1, 1), (-2, 1)), ((2, 1), (0, 1))], STILL[::-1], EVEN[:2],
        [None] * 5, [(0, 1), (1, 1)],
    ] + other_things()


class WayCase(Case):
    def check_no_haps_and_numbers(self, call, *others):
        for thing in no_hap_lists(8):
            self.check_refused(NoHaps, call, thing, 0, 1, *others)
        for thing in no_hap_lists(8)[:10]:
            self.check_refused(NoHaps, call, thing, None, -1, *others)
        for haps in [FORKS, CROSSED]:
            wrong = [-1, -2, len(haps), 8, FORTY, -FORTY, True, False, None, "0", "1", (0,), [1], {}]
            for thing in wrong + [other for other in other_things() if other not in (0, 1)]:
                self.check_refused(NoNumber, call, haps, thing, 1, *others)
                self.check_refused(NoNumber, call, haps, 0, thing, *others)
            for at in range(len(haps)):
                self.check_refused(NoNumber, call, haps, at, at, *others)
        for numbers in [(0, 0), (0, 1), (1, 0)]:
            self.check_refused(NoNumber, call, STILL[:1], *numbers, *others)


class OwnTimes(WayCase):
    def test_ordinary_ones(self):
        for time, place, later, there, own in SQUARE_STEPS:
            one, other = haps_at([(time, place), (later, there)])
            self.check_fraction(own_time(one, other), parted(Fraction(own)))
            self.check_fraction(own_square(one, other), parted(Fraction(own) ** 2))
            self.check_fraction(own_square(other, one), parted(Fraction(own) ** 2))
            self.check_refused(NoStep, own_time, other, one)
        self.check_fraction(own_square(HAPS[0], HAPS[2]), (-1, 1))
        self.check_fraction(own_square(HAPS[0], HAPS[0]), (0, 1))
        self.check_fraction(own_square(((0, 1), (0, 1)), ((1, 2), (1, 3))), (5, 36))

    def test_as_the_document_reckons(self):
        for one in HAPS + LONG_HAPS + FORKS:
            for other in HAPS + LONG_HAPS + FORKS:
                lapse, gap = lapse_and_gap(one, other)
                self.check_fraction(own_square(one, other), parted(lapse * lapse - gap * gap))
                own = own_by_standard(one, other)
                if own is not None:
                    self.check_fraction(own_time(one, other), parted(own))
                elif kind_by_standard(one, other) == "later":
                    self.check_refused(NotPlain, own_time, one, other)
                else:
                    self.check_refused(NoStep, own_time, one, other)

    def test_all_seats_tell_the_same(self):
        for speed, beat, stretch in PLAIN + LONG_PLAIN:
            told = [told_from((speed, HAPS[3]), hap) for hap in FORKS]
            for i, j in itertools.permutations(range(8), 2):
                self.assertEqual(own_square(told[i], told[j]), own_square(FORKS[i], FORKS[j]))

    def test_what_a_clock_shows_that_goes_there(self):
        for speed, beat, stretch in PLAIN + LONG_PLAIN:
            other = ((7, 1), parted(7 * standard(speed)))
            self.check_fraction(own_time(HAPS[0], other), told_from((speed, HAPS[0]), other)[0])

    def test_no_steps(self):
        for one, other in no_steps():
            self.check_refused(NoStep, own_time, one, other)

    def test_not_plain(self):
        for one, other in [((0, 0), (2, 1)), ((0, 0), (3, -1)), ((1, 1), (FORTY, 0)), ((0, 0), (Fraction(1, 2), Fraction(1, 3)))]:
            self.check_refused(NotPlain, own_time, *haps_at([one, other]))


class Along(WayCase):
    def test_ordinary_ones(self):
        for way, own in [
            (FORKS[:1] + [FORKS[1], FORKS[3]], (8, 1)), ([FORKS[0], FORKS[3]], (10, 1)), ([FORKS[0], FORKS[4]], (0, 1)),
            (STILL, (7, 1)), ([CROSSED[0], CROSSED[1], CROSSED[3]], (0, 1)), (CROSSED[::3], (4, 1)),
            (haps_at([(at, at % 2) for at in range(12)]), (0, 1)), (haps_at([(5 * at, 3 * (at % 2)) for at in range(12)]), (44, 1)),
            (haps_at([(0, 0), (Fraction(1, 2), 0), (2, 0)]), (2, 1)),
        ]:
            self.check_fraction(own_along(way), own)

    def test_as_its_steps_together(self):
        for haps in LISTS:
            for own, numbers in [way for end in range(1, len(haps)) for way in ways_by_standard(haps, 0, end)]:
                self.check_fraction(own_along([haps[at] for at in numbers]), parted(own))

    def test_no_way_takes_more_than_the_straight_step(self):
        for haps in LISTS:
            for end in range(1, len(haps)):
                straight = own_square(haps[0], haps[end])
                for own, numbers in ways_by_standard(haps, 0, end):
                    self.assertLessEqual(standard(own_along([haps[at] for at in numbers])) ** 2, standard(straight))

    def test_no_ways(self):
        for thing in no_ways():
            self.check_refused(NoStep, own_along, thing)

    def test_not_plain(self):
        uneven = haps_at([(0, 0), (1, 0), (3, 1), (4, 1)])
        for way in [uneven, uneven[:3], uneven[1:], uneven[1:3], haps_at([(at * 3, at) for at in range(12)])]:
            self.check_refused(NotPlain, own_along, way)

    def test_no_step_ahead_of_not_plain(self):
        uneven = haps_at([(0, 0), (2, 1)])
        for last in [None, (1, 1), uneven[0], uneven[1], haps_at([(2, 2)])[0], list(haps_at([(9, 1)])[0])]:
            self.check_refused(NoStep, own_along, uneven + [last])
        self.check_refused(NoStep, own_along, tuple(uneven))
        self.check_refused(NoStep, own_along, haps_at([(at * 3, at) for at in range(13)]))

    def test_two_to_twelve(self):
        haps = haps_at([(at, 0) for at in range(14)])
        for many in range(2, 13):
            self.check_fraction(own_along(haps[:many]), (many - 1, 1))
        for many in [0, 1, 13, 14]:
            self.check_refused(NoStep, own_along, haps[:many])

    def test_same_again(self):
        told = own_along(FORKS[:2])
        self.check_refused(NoStep, own_along, FORKS)
        self.check_refused(NotPlain, own_along, haps_at([(0, 0), (2, 1)]))
        self.assertEqual(own_along(FORKS[:2]), told)


class Ways(WayCase):
    def check_way(self, haps, told, expected):
        if expected is None:
            self.assertIs(told, None)
            return
        self.assertIs(type(told), tuple)
        self.assertEqual(told, expected)
        self.check_fraction(told[0], expected[0])
        self.assertIs(type(told[1]), tuple)
        self.assertEqual({type(number) for number in told[1]}, {int})
        self.assertEqual(own_along([haps[at] for at in told[1]]), told[0])

    def test_ordinary_ones(self):
        for haps, start, end, most, least in [
            (FORKS[:4], 0, 3, ((10, 1), (0, 3)), ((8, 1), (0, 1, 3))),
            (FORKS, 0, 3, ((10, 1), (0, 3)), ((4, 1), (0, 2, 6, 3))), (FORKS, 0, 4, ((0, 1), (0, 4)), ((0, 1), (0, 4))),
            (FORKS, 3, 0, None, None), (FORKS, 1, 2, None, None), (FORKS, 4, 3, None, None),
            (STILL, 0, 7, ((7, 1), (0, 1, 2, 3, 4, 5, 6, 7)), ((7, 1), (0, 1, 2, 3, 4, 5, 6, 7))),
            (STILL, 2, 4, ((2, 1), (2, 3, 4)), ((2, 1), (2, 3, 4))),
            (TURNED, 1, 4, ((7, 1), (1, 0, 2, 4)), ((7, 1), (1, 0, 2, 4))),
            (TURNED, 3, 7, ((3, 1), (3, 0, 7)), ((3, 1), (3, 0, 7))),
            (CROSSED, 0, 3, ((4, 1), (0, 3)), ((0, 1), (0, 1, 3))), (CROSSED, 0, 1, ((0, 1), (0, 1)), ((0, 1), (0, 1))),
            (haps_at([(0, 0), (2, 1), (4, 0)]), 0, 2, ((4, 1), (0, 2)), ((4, 1), (0, 2))),
            (haps_at([(0, 0), (2, 1), (4, 0)]), 0, 1, None, None),
            # No step goes straight there plainly, but one by another hap does.
            (haps_at([(0, 0), (5, 3), (6, 3)]), 0, 2, ((5, 1), (0, 1, 2)), ((5, 1), (0, 1, 2))),
        ]:
            self.check_way(haps, most_way(haps, start, end), most)
            self.check_way(haps, least_way(haps, start, end), least)

    def test_as_the_document_reckons(self):
        several = 0
        for haps in LISTS:
            for start, end in itertools.permutations(range(len(haps)), 2):
                ways = ways_by_standard(haps, start, end)
                several += len(ways) > 2
                self.check_way(haps, most_way(haps, start, end), best_by_standard(ways, max))
                self.check_way(haps, least_way(haps, start, end), best_by_standard(ways, min))
        self.assertGreater(several, 50)

    def test_wrong_lists_and_numbers(self):
        self.check_no_haps_and_numbers(most_way)
        self.check_no_haps_and_numbers(least_way)

    def test_same_again(self):
        for call in [most_way, least_way]:
            self.check_own(call, FORKS, 0, 3)
            self.check_own(call, FORKS, 3, 0)


class Marks(WayCase):
    def test_ordinary_ones(self):
        for marks, own, expected in [
            (((0, 1), (4, 1), (10, 1)), (10, 1), True), (((0, 1), (5, 1), (10, 1)), (10, 1), True),
            (((0, 1), (6, 1), (10, 1)), (10, 1), True), (((0, 1), (7, 1), (10, 1)), (10, 1), False),
            (((0, 1), (3, 1), (10, 1)), (10, 1), False), (((0, 1), (4, 1), (11, 1)), (11, 1), True),
            (((0, 1), (4, 1), (9, 1)), (9, 1), False), (((0, 1), (4, 1), (11, 1)), (10, 1), False),
            (((1, 1), (5, 1), (11, 1)), (11, 1), False), (((0, 1), (5, 1), (10, 1)), (-10, 1), False),
        ]:
            self.assertIs(shows_most(haps_at([(0, 0), (5, 3), (10, 0)]), 0, 2, own, marks), expected)

    def test_marks_are_told_just_where_there_is_a_way(self):
        told = 0
        for haps in LISTS:
            for start, end in itertools.permutations(range(len(haps)), 2):
                marks = marks_for(haps, start, end)
                most = most_way(haps, start, end)
                if most is None:
                    self.assertIs(marks, None)
                    continue
                told += 1
                self.assertIs(type(marks), tuple)
                for mark in marks:
                    self.check_fraction(mark, mark)
                self.assertTrue(shows_by_standard(haps, start, end, most[0], marks))
                self.assertIs(shows_most(haps, start, end, most[0], marks), True)
                self.assertEqual(marks_for(haps, start, end), marks)
        self.assertGreater(told, 200)

    def test_no_way_takes_more_than_any_marks_let(self):
        for haps in LISTS[:8]:
            for start, end in itertools.permutations(range(len(haps)), 2):
                marks = marks_for(haps, start, end)
                for own, numbers in ways_by_standard(haps, start, end):
                    self.assertLessEqual(own, standard(marks[end]))

    def test_a_little_more_and_less(self):
        for haps, start, end in [(FORKS, 0, 3), (STILL, 0, 7), (STILL, 2, 5), (CROSSED, 0, 3), (MOVING, 1, 2), (TURNED, 1, 4)]:
            marks, own = marks_for(haps, start, end), most_way(haps, start, end)[0]
            for change in [(1, 1), (-1, 1), (1, FORTY), (-1, FORTY), (-7, 2)]:
                self.assertIs(shows_most(haps, start, end, plus(own, change), marks), False)
                for at in range(len(haps)):
                    bent = marks[:at] + (plus(marks[at], change),) + marks[at + 1:]
                    self.assertIs(shows_most(haps, start, end, own, bent), shows_by_standard(haps, start, end, own, bent))
                lifted = tuple(plus(mark, change) for mark in marks)
                self.assertIs(shows_most(haps, start, end, plus(own, change), lifted), False)
                bent = marks[:end] + (plus(own, change),) + marks[end + 1:]
                expected = shows_by_standard(haps, start, end, plus(own, change), bent)
                self.assertIs(shows_most(haps, start, end, plus(own, change), bent), expected)

    def test_marks_where_there_is_no_way(self):
        haps = haps_at([(0, 0), (2, 1), (0, 9)])
        for start, end in itertools.permutations(range(3), 2):
            self.assertIs(marks_for(haps, start, end), None)
            for own in [(0, 1), (5, 1), (-5, 1), (-1, FORTY)]:
                marks = [(1, 3)] * 3
                marks[start], marks[end] = (0, 1), own
                self.assertIs(shows_most(haps, start, end, own, tuple(marks)), True)
        self.assertIs(shows_most(STILL[:2], 1, 0, (-1, 1), ((-1, 1), (0, 1))), True)
        self.assertIs(shows_most(STILL[:2], 1, 0, (-2, 1), ((-2, 1), (0, 1))), True)
        self.assertIs(shows_most(STILL[:2], 1, 0, (0, 1), ((0, 1), (0, 1))), False)

    def test_by_small_marks_of_all_kinds(self):
        shown = 0
        for haps in [STILL[:3], CROSSED[:3], haps_at([(0, 0), (2, 1), (3, 1)]), haps_at([(0, 0), (0, 5), (5, 2)])]:
            for marks in itertools.product([(-1, 1), (0, 1), (1, 2), (1, 1), (2, 1)], repeat=3):
                for start, end in itertools.permutations(range(3), 2):
                    for own in [marks[end], (1, 1)]:
                        expected = shows_by_standard(haps, start, end, own, marks)
                        shown += expected
                        self.assertIs(shows_most(haps, start, end, own, marks), expected)
        self.assertGreater(shown, 100)

    def test_things_that_are_no_marks(self):
        for haps, start, end in [(FORKS, 0, 3), (STILL[:2], 0, 1), (FORKS, 3, 0)]:
            many = len(haps)
            own = (10, 1) if many > 2 else (1, 1)
            marks = marks_for(haps, 0, end or 3)
            bent = [
                list(marks), marks[:-1], marks[1:], marks + ((0, 1),), marks + (marks[-1],), (marks,), [marks], marks * 2,
                {at: mark for at, mark in enumerate(marks)}, tuple(list(mark) for mark in marks), (None,) * many, (0,) * many,
                tuple(str(mark) for mark in marks), marks[:-1] + (None,), marks[:-1] + ([0, 1],), (0,) + marks[1:],
                ((0, 2),) + marks[1:], ((0, True),) + marks[1:], ((False, 1),) + marks[1:], ((0, -1),) + marks[1:],
                tuple((2 * mark[0], 2 * mark[1]) for mark in marks), marks[:-1] + ({},), (own,) * many, ((0, 1),) * 9999,
            ]
            call = lambda thing: shows_most(haps, start, end, own, thing)
            self.check_told_of_anything(call, bent + no_fractions(), False)

    def test_own_times_of_other_kinds(self):
        marks = marks_for(STILL[:2], 0, 1)
        self.assertIs(shows_most(STILL[:2], 0, 1, (1, 1), marks), True)
        call = lambda own: shows_most(STILL[:2], 0, 1, own, marks)
        self.check_told_of_anything(call, no_fractions() + [(True, True), (2, 2), "1", 1, [1, 1]], False)
        self.check_told_of_anything(call, [own for own in FRACTIONS if own != (1, 1)], False)

    def test_wrong_lists_and_numbers(self):
        self.check_no_haps_and_numbers(marks_for)
        self.check_no_haps_and_numbers(shows_most, (1, 1), ((0, 1), (1, 1)))
        self.check_no_haps_and_numbers(shows_most, None, None)

    def test_what_is_handed_in_stays(self):
        self.check_own(marks_for, FORKS, 0, 3)
        self.check_own(marks_for, FORKS, 3, 0)
        self.check_own(shows_most, FORKS, 0, 3, (10, 1), marks_for(FORKS, 0, 3))
        self.check_own(shows_most, FORKS, 0, 3, (10, 1), [[], {}])


class Whole(WayCase):
    def test_told_haps_have_the_same_ways(self):
        for haps in LISTS[:6]:
            for speed, beat, stretch in PLAIN[::4]:
                told = [told_from((speed, HAPS[4]), hap) for hap in haps]
                for start, end in itertools.permutations(range(len(haps)), 2):
                    self.assertEqual(most_way(told, start, end), most_way(haps, start, end))
                    self.assertEqual(least_way(told, start, end), least_way(haps, start, end))

    def test_the_least_is_no_more_than_the_most(self):
        for haps in LISTS:
            for start, end in itertools.permutations(range(len(haps)), 2):
                most, least = most_way(haps, start, end), least_way(haps, start, end)
                if most is not None:
                    self.assertIs(is_less(most[0], least[0]), False)
                    self.assertIs(is_less(less(most[0], least[0]), (0, 1)), False)

    def test_quick_at_the_greatest_lists(self):
        program = """
import itertools, sys
sys.path.insert(0, {path!r})
from samples import LONG_HAPS
from test_ways import FLASH, FORKS, STILL, TURNED
from seatclocks.ways import *
for haps in [FLASH, FORKS, STILL, TURNED, LONG_HAPS]:
    for turned in [haps, list(reversed(haps))]:
        for start, end in itertools.permutations(range(8), 2):
            most, least = most_way(turned, start, end), least_way(turned, start, end)
            marks = marks_for(turned, start, end)
            assert marks is None or shows_most(turned, start, end, most[0], marks)
print("done")
""".format(path=__file__.rpartition("/")[0])
        self.assertEqual(ended_quick(program), "done\n")


if __name__ == "__main__":
    unittest.main()
