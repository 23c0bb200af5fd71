import copy
import itertools
import unittest
from fractions import Fraction

from samples import (
    EIGHT_ASUNDER, EVEN, FLASH, FORTY, HAP_LISTS, HAPS, LONG_HAPS, OTHER_FORTY, PLAIN, SPEEDS, Case, chance_haps,
    ended_quick, haps_at, kind_by_standard, lapse_and_gap, nested, no_hap_lists, no_speeds, other_things, parted, standard,
)
from seatclocks.errors import NoHaps, NoOrder, NoSpeed
from seatclocks.haps import is_hap
from seatclocks.orders import even_speed, kind_of, none_for, order_at, orders, shows_none, speed_for, turns
from seatclocks.seats import told_from
from seatclocks.speeds import is_plain, is_speed

OTHER_WORD = {"same": "same", "later": "earlier", "earlier": "later", "beside": "beside"}
# Short lists of which each order is looked at.
SHORT = [haps for haps in HAP_LISTS if len(haps) <= 4] + [chance_haps(seed, 4, 3) for seed in range(40, 52)]
PAIR_HAPS = HAPS + [hap for haps in HAP_LISTS[:20:3] for hap in haps] + LONG_HAPS


def even_by_standard(one, other):
    """The speed from which two haps beside one another are at one time, or None."""
    if kind_by_standard(one, other) != "beside":
        return None
    lapse, gap = lapse_and_gap(one, other)
    return lapse / gap


def standing_by_standard(haps, speed):
    """The numbers of the haps by their times less the speed times their places."""
    stand = [standard(time) - speed * standard(place) for time, place in haps]
    return [[at for at in range(len(haps)) if stand[at] == time] for time in sorted(set(stand))]


def turns_by_standard(haps):
    """The speeds, each once, rising, from which two of the haps beside one another are at one time."""
    told = [even_by_standard(one, other) for one, other in itertools.combinations(haps, 2)]
    return sorted({speed for speed in told if speed is not None})


def orders_by_standard(haps):
    """The orders told between each two turns, and below and above them all."""
    borders = [Fraction(-1)] + turns_by_standard(haps) + [Fraction(1)]
    told = [standing_by_standard(haps, (low + high) / 2) for low, high in zip(borders, borders[1:])]
    return [tuple(numbers[0] for numbers in order) for order in told]


def bound_by_standard(haps, i, j):
    """Where i is ahead of j: always, never, or just above or below some bound."""
    kind = kind_by_standard(haps[i], haps[j])
    if kind != "beside":
        return (kind, None)
    lapse, gap = lapse_and_gap(haps[i], haps[j])
    # Ahead is i where its time less the speed times its place is less: where the lapse is above the speed times the gap.
    return ("below" if gap > 0 else "above", lapse / gap)


def shows_by_standard(haps, order, thing):
    """Whether a tuple of a word and numbers of haps is a paper, as the document tells it."""
    stands = [(i, j) for i, j in itertools.permutations(order, 2) if order.index(i) < order.index(j)]
    if thing[0] == "later" and len(thing) == 3:
        return thing[1:] in stands and kind_by_standard(haps[thing[2]], haps[thing[1]]) == "later"
    if thing[0] == "bounds" and len(thing) == 5 and thing[1:3] in stands and thing[3:] in stands:
        one, other = bound_by_standard(haps, *thing[1:3]), bound_by_standard(haps, *thing[3:])
        return one[0] == "above" and other[0] == "below" and one[1] >= other[1]
    return False


def no_orders(haps):
    """Things that are no order of the haps, though some are nearly one."""
    many = len(haps)
    order = tuple(range(many))
    bent = [order[:-1], order + (many,), order + (0,), order[:-1] + (many,), (-1,) + order[1:], order[:-1] + (None,)]
    bent += [order[:-1] + (str(many - 1),), order[:-1] + ((many - 1,),), order[:-1] + ([],), order[:-1] + ({},)]
    bent += [(False,) + order[1:], tuple(order[:1] * many) + (0,), list(order), [order], (order,), {at: at for at in order}]
    if many > 1:
        bent += [(0, True) + order[2:], (0,) * many, order[:-1] + (0,), order[1:] + (many,)]
    return bent + [(), 0, "0", "01", tuple(haps), (FORTY,), (-FORTY,) * many, (0,) * 10000] + other_things()


def no_papers(haps):
    """Things that are no paper, though some are nearly one."""
    return [
        "later", "bounds", ("later",), ("bounds",), ("later", 0), ("later", 0, 0), ("later", 0, 0, 0), ("later", (0, 1)),
        ("bounds", 0, 1), ("bounds", 0, 1, 0), ("bounds", (0, 1), (1, 0)), ("bounds", 0, 0, 0, 0), ("bounds", 0, 1, 0, 1),
        ("bounds", 0, 1, 1, 0, 0), ("later", 0, len(haps)), ("later", len(haps), 0), ("later", -1, 0), ("later", 0, -1),
        ("later", -FORTY, FORTY), ("bounds", -1, -2, -3, -4), ("bounds", FORTY, 0, 1, 2), ("later", "0", "1"),
        ("later", None, None), ("later", [], {}), ("bounds", [0], [1], [2], [3]), ("later", (0,), (1,)),
        (("later", 0, 1),), (("later",), 0, 1), (["later"], 0, 1), ({}, 0, 1), (None, 0, 1), (True, 0, 1), (0, 0, 1),
        ("later",) + (0,) * 9999, ("bounds",) + (1,) * 9999, ("later", nested("list", 58), nested("tuple", 58)),
        {"later": (0, 1)}, {0: "later", 1: 0, 2: 1},
    ] + other_things()


def bent_papers(paper):
    """A paper with one thing put otherwise, in each way."""
    word, numbers = paper[0], paper[1:]
    bent = [list(paper), (paper,), [paper], paper[:-1], paper[1:], paper + (0,), paper + (None,), numbers + (word,)]
    bent += [(other,) + numbers for other in ["", "same", "earlier", "beside", "Later", "later ", "Bounds", "bound", 0, None]]
    bent.append(({"later": "bounds", "bounds": "later"}[word],) + numbers)
    for at, number in enumerate(numbers):
        for other in [str(number), (number,), [number], None, {}, -1, number - 8, number + 8, FORTY]:
            bent.append((word,) + numbers[:at] + (other,) + numbers[at + 1:])
        if number in (0, 1):
            bent.append((word,) + numbers[:at] + (bool(number),) + numbers[at + 1:])
    return bent + [(word,) + tuple(reversed(numbers[:2])) + numbers[2:], (word,) + numbers[:2] + numbers]


class OrderCase(Case):
    def check_no_haps(self, call, *others):
        for thing in no_hap_lists(8):
            self.check_refused(NoHaps, call, thing, *others)


class Kinds(OrderCase):
    def test_ordinary_ones(self):
        here = ((1, 2), (-1, 3))
        for time, place, kind, speed in [
            (0, 0, "same", None), (1, 0, "later", None), (-1, 0, "earlier", None), (0, 1, "beside", (0, 1)),
            (0, -1, "beside", (0, 1)), (1, 1, "later", None), (1, -1, "later", None), (-1, 1, "earlier", None),
            (-1, -1, "earlier", None), (1, 2, "beside", (1, 2)), (1, -2, "beside", (-1, 2)), (-1, 2, "beside", (-1, 2)),
            (-1, -2, "beside", (1, 2)), (2, 1, "later", None), (2, -1, "later", None), (-2, 1, "earlier", None),
            (Fraction(1, FORTY), 0, "later", None), (0, Fraction(1, FORTY), "beside", (0, 1)),
            (FORTY - 1, FORTY, "beside", (FORTY - 1, FORTY)), (FORTY, FORTY - 1, "later", None),
        ]:
            there = haps_at([(Fraction(1, 2) + time, Fraction(-1, 3) + place)])[0]
            self.assertEqual(kind_of(here, there), kind)
            self.assertEqual(kind_of(there, here), OTHER_WORD[kind])
            self.assertEqual([even_speed(here, there), even_speed(there, here)], [speed, speed])

    def test_as_the_document_reckons(self):
        for one in PAIR_HAPS:
            for other in PAIR_HAPS:
                self.assertEqual(kind_of(one, other), kind_by_standard(one, other))
                self.assertEqual(kind_of(other, one), OTHER_WORD[kind_of(one, other)])
                speed = even_by_standard(one, other)
                if speed is None:
                    self.assertIs(even_speed(one, other), None)
                else:
                    self.check_fraction(even_speed(one, other), parted(speed))
                    self.assertIs(is_speed(even_speed(one, other)), True)

    def test_all_seats_tell_a_later_one_behind(self):
        for one in HAPS[:6]:
            for other in HAPS[:6]:
                told = [[told_from((speed, HAPS[1]), hap) for hap in [one, other]] for speed, beat, stretch in PLAIN]
                self.assertEqual({kind_of(*haps) for haps in told}, {kind_of(one, other)})
                if kind_of(one, other) == "later":
                    self.assertTrue(all(standard(haps[0][0]) < standard(haps[1][0]) for haps in told))

    def test_at_one_time_from_the_even_speed(self):
        for one, other in [(HAPS[0], HAPS[2]), (((0, 1), (0, 1)), ((3, 1), (5, 1))), (((7, 3), (1, 1)), ((1, 1), (8, 3)))]:
            seat = (even_speed(one, other), ((2, 1), (3, 1)))
            self.assertEqual(told_from(seat, one)[0], told_from(seat, other)[0])

    def test_same_again_and_new_haps_like_them(self):
        one, other = ((0, 1), (0, 1)), ((1, 1), (2, 1))
        for _ in range(2):
            self.assertEqual((kind_of(one, other), even_speed(one, other)), ("beside", (1, 2)))
            self.assertEqual((kind_of(one, copy.deepcopy(one)), even_speed(one, copy.deepcopy(one))), ("same", None))


class Standing(OrderCase):
    def test_ordinary_ones(self):
        haps = haps_at([(0, 0), (3, 5), (6, 10), (1, 0), (4, 5)])
        self.assertEqual(order_at(haps, (0, 1)), [[0], [3], [1], [4], [2]])
        self.assertEqual(order_at(haps, (3, 5)), [[0, 1, 2], [3, 4]])
        self.assertEqual(order_at(haps, (4, 5)), [[2], [1], [0, 4], [3]])
        self.assertEqual(order_at(haps, (-1, 2)), [[0], [3], [1], [4], [2]])
        self.assertEqual(order_at(haps_at([(5, 5)]), (1, 2)), [[0]])
        self.assertEqual(order_at(EVEN, (0, 1)), [[0, 1, 2, 3, 4, 5, 6, 7]])
        self.assertEqual(order_at(EVEN, (1, 2)), [[2], [6], [7], [0], [4], [5], [3], [1]])

    def test_as_the_document_reckons(self):
        for haps in HAP_LISTS:
            for speed in SPEEDS + turns(haps):
                told = self.check_own(order_at, haps, speed)
                self.assertEqual(told, standing_by_standard(haps, standard(speed)))
                self.assertEqual([type(part) for part in told], [list] * len(told))

    def test_by_the_times_that_a_seat_tells(self):
        for haps in HAP_LISTS:
            for speed, beat, stretch in PLAIN:
                times = [standard(told_from((speed, HAPS[3]), hap)[0]) for hap in haps]
                told = order_at(haps, speed)
                shared = [{times[at] for at in numbers} for numbers in told]
                self.assertEqual([len(part) for part in shared], [1] * len(told))
                self.assertEqual([part.pop() for part in shared], sorted(set(times)))

    def test_no_speeds(self):
        for thing in no_speeds():
            self.check_refused(NoSpeed, order_at, HAP_LISTS[8], thing)
            self.check_refused(NoSpeed, order_at, [], thing)

    def test_no_speed_ahead_of_no_haps(self):
        for thing in no_hap_lists(8):
            self.check_refused(NoSpeed, order_at, thing, (1, 1))
        self.check_no_haps(order_at, (1, 2))


class AllOrders(OrderCase):
    def test_ordinary_ones(self):
        for haps, speeds, told in [
            (haps_at([(0, 0)]), [], [(0,)]),
            (haps_at([(0, 0), (1, 2)]), [(1, 2)], [(0, 1), (1, 0)]),
            (haps_at([(0, 0), (1, -2)]), [(-1, 2)], [(1, 0), (0, 1)]),
            (haps_at([(1, 0), (0, 0)]), [], [(1, 0)]),
            (haps_at([(1, 1), (0, 0)]), [], [(1, 0)]),
            (haps_at([(0, 0), (0, 1), (0, -1)]), [(0, 1)], [(2, 0, 1), (1, 0, 2)]),
            (haps_at([(0, 0), (1, 2), (0, 4)]), [(-1, 2), (0, 1), (1, 2)],
             [(0, 1, 2), (0, 2, 1), (2, 0, 1), (2, 1, 0)]),
        ]:
            self.assertEqual(turns(haps), speeds)
            self.assertEqual(orders(haps), told)

    def test_as_the_document_reckons(self):
        for haps in HAP_LISTS:
            told = self.check_own(turns, haps)
            for speed in told:
                self.check_fraction(speed, speed)
                self.assertIs(is_speed(speed), True)
            self.assertEqual([standard(speed) for speed in told], turns_by_standard(haps))
            told = self.check_own(orders, haps)
            self.assertEqual(told, orders_by_standard(haps))
            self.assertEqual([type(order) for order in told], [tuple] * len(told))

    def test_one_order_more_than_turns(self):
        for haps in HAP_LISTS + [chance_haps(seed, 8, 9) for seed in range(20)]:
            self.assertEqual(len(orders(haps)), len(turns(haps)) + 1)
            self.assertEqual(len(set(orders(haps))), len(turns(haps)) + 1)

    def test_along_a_flash_there_is_one_order(self):
        self.assertEqual(turns(FLASH), [])
        self.assertEqual(orders(FLASH), [(0, 2, 4, 1, 5, 7, 6, 3)])

    def test_from_any_speed_haps_stand_so_or_some_are_at_one_time(self):
        for haps in HAP_LISTS:
            told = orders(haps)
            for speed in SPEEDS:
                standing = order_at(haps, speed)
                if speed in turns(haps):
                    self.assertLess(len(standing), len(haps))
                else:
                    self.assertIn(tuple(numbers[0] for numbers in standing), told)
                    self.assertEqual(len(standing), len(haps))

    def test_no_haps(self):
        self.check_no_haps(turns)
        self.check_no_haps(orders)

    def test_eight_haps_are_taken_and_nine_are_not(self):
        haps = haps_at([(at, 0) for at in range(9)])
        self.assertEqual(orders(haps[:8]), [tuple(range(8))])
        self.assertEqual(orders(haps[:1]), [(0,)])
        for call in [turns, orders]:
            self.check_refused(NoHaps, call, haps)
            self.check_refused(NoHaps, call, haps[:0])


class Papers(OrderCase):
    def check_tells(self, haps, order, speed):
        """A seat of the speed tells the order."""
        self.check_fraction(speed, speed)
        self.assertIs(is_speed(speed), True)
        self.assertIs(is_plain(speed), True)
        self.assertEqual(standing_by_standard(haps, standard(speed)), [[number] for number in order])

    def check_paper(self, haps, order, paper):
        """It is a paper, and told to be one."""
        self.assertIs(type(paper), tuple)
        self.assertIs(type(paper[0]), str)
        self.assertEqual({type(number) for number in paper[1:]}, {int})
        self.assertTrue(all(0 <= number < len(haps) for number in paper[1:]))
        self.assertIs(shows_by_standard(haps, order, paper), True)
        self.assertIs(shows_none(haps, order, paper), True)

    def check_order(self, haps, order, is_told):
        if is_told:
            self.assertIs(none_for(haps, order), None)
            self.check_tells(haps, order, speed_for(haps, order))
        else:
            self.assertIs(speed_for(haps, order), None)
            self.check_paper(haps, order, none_for(haps, order))

    def test_ordinary_ones(self):
        haps = haps_at([(0, 0), (1, 0), (0, 4)])
        self.assertEqual(orders(haps), [(0, 1, 2), (0, 2, 1), (2, 0, 1)])
        self.assertEqual(none_for(haps, (1, 0, 2)), ("later", 1, 0))
        self.assertEqual(none_for(haps, (2, 1, 0)), ("later", 1, 0))
        self.assertEqual(none_for(haps, (1, 2, 0)), ("later", 1, 0))
        even = haps_at([(0, 0), (0, 1), (0, 2)])
        self.assertIs(shows_none(even, (0, 2, 1), ("bounds", 2, 1, 0, 1)), True)
        self.assertIs(shows_none(even, (0, 2, 1), ("bounds", 2, 1, 0, 2)), True)
        self.assertIs(shows_none(even, (0, 2, 1), ("bounds", 0, 1, 2, 1)), False)
        self.assertIs(shows_none(even, (0, 1, 2), ("bounds", 2, 1, 0, 1)), False)
        self.assertIs(shows_none(even, (1, 0, 2), ("bounds", 1, 0, 0, 2)), True)
        self.assertIs(shows_none(even, (1, 0, 2), ("bounds", 1, 0, 1, 2)), True)
        self.assertIs(shows_none(even, (1, 0, 2), ("bounds", 0, 2, 1, 0)), False)

    def test_each_order_has_a_speed_or_a_paper(self):
        kinds = {"later": 0, "bounds": 0}
        for haps in SHORT:
            told = orders(haps)
            for order in itertools.permutations(range(len(haps))):
                self.check_order(haps, order, order in told)
                if order not in told:
                    kinds[none_for(haps, order)[0]] += 1
        self.assertTrue(all(many > 20 for many in kinds.values()), kinds)

    def test_each_told_order_of_longer_lists_has_a_speed(self):
        for haps in HAP_LISTS:
            for order in orders(haps):
                self.check_order(haps, order, True)

    def test_orders_of_longer_lists_that_are_not_told(self):
        for haps in [haps for haps in HAP_LISTS if len(haps) > 4]:
            told = orders(haps)
            for one in told:
                for at in range(len(haps) - 1):
                    order = one[:at] + (one[at + 1], one[at]) + one[at + 2:]
                    self.check_order(haps, order, order in told)
                self.check_order(haps, one[::-1], one[::-1] in told)
                self.check_order(haps, one[1:] + one[:1], one[1:] + one[:1] in told)

    def test_where_bounds_are_the_same(self):
        haps = haps_at([(0, 0), (1, 2), (2, 4)])
        self.assertEqual(orders(haps), [(0, 1, 2), (2, 1, 0)])
        for order in [(0, 2, 1), (1, 0, 2), (1, 2, 0), (2, 0, 1)]:
            self.check_order(haps, order, False)

    def test_all_papers_of_short_lists(self):
        shown = 0
        for haps in [haps for haps in SHORT if len(haps) == 3][:4] + SHORT[-2:]:
            numbers = range(len(haps))
            papers = [("later",) + pair for pair in itertools.product(numbers, repeat=2)]
            papers += [("bounds",) + pairs for pairs in itertools.product(numbers, repeat=4)]
            for order in itertools.permutations(numbers):
                told = [paper for paper in papers if shows_none(haps, order, paper)]
                self.assertEqual(told, [paper for paper in papers if shows_by_standard(haps, order, paper)])
                self.assertEqual(told == [], order in orders(haps))
                shown += len(told)
        self.assertGreater(shown, 100)

    def test_papers_of_eight_haps(self):
        for haps in [EIGHT_ASUNDER, FLASH, EVEN, LONG_HAPS]:
            order = (3, 1, 4, 0, 5, 2, 7, 6)
            pairs = list(itertools.permutations(range(8), 2))
            for paper in [("later",) + pair for pair in pairs] + [("bounds",) + i + k for i in pairs[::3] for k in pairs[::5]]:
                self.assertIs(shows_none(haps, order, paper), shows_by_standard(haps, order, paper))

    def test_things_that_are_no_papers(self):
        for haps, order in [(SHORT[0], (0,)), (haps_at([(0, 0), (1, 0), (0, 4)]), (1, 0, 2)), (EIGHT_ASUNDER, tuple(range(8)))]:
            self.check_told_of_anything(lambda thing: shows_none(haps, order, thing), no_papers(haps), False)

    def test_bent_papers(self):
        for haps, order, paper in [
            (haps_at([(0, 0), (1, 0), (0, 4)]), (1, 0, 2), ("later", 1, 0)),
            (haps_at([(0, 0), (0, 1), (0, 2)]), (1, 0, 2), ("bounds", 1, 0, 0, 2)),
            (haps_at([(0, 0), (0, 1), (0, 2)]), (1, 0, 2), ("bounds", 1, 0, 1, 2)),
        ]:
            self.assertIs(shows_none(haps, order, paper), True)
            self.check_told_of_anything(lambda thing: shows_none(haps, order, thing), bent_papers(paper), False)
            self.assertIs(shows_none(haps, order, paper), True)

    def test_a_paper_is_one_of_its_order_alone(self):
        haps = haps_at([(0, 0), (1, 0), (0, 4)])
        for order in itertools.permutations(range(3)):
            self.assertIs(shows_none(haps, order, ("later", 1, 0)), order.index(1) < order.index(0))

    def test_no_haps(self):
        for call in [speed_for, none_for]:
            self.check_no_haps(call, (0, 1))
            self.check_no_haps(call, None)
        self.check_no_haps(shows_none, (0, 1), ("later", 0, 1))
        self.check_no_haps(shows_none, None, None)

    def test_no_orders(self):
        for haps in [SHORT[0], SHORT[2], EIGHT_ASUNDER]:
            for thing in no_orders(haps):
                self.check_refused(NoOrder, speed_for, haps, thing)
                self.check_refused(NoOrder, none_for, haps, thing)
                self.check_refused(NoOrder, shows_none, haps, thing, ("later", 0, 1))
                self.check_refused(NoOrder, shows_none, haps, thing, None)

    def test_what_is_told_is_told_again(self):
        for haps in [SHORT[5], EIGHT_ASUNDER, LONG_HAPS]:
            for order in [orders(haps)[0], orders(haps)[0][::-1]]:
                self.check_own(speed_for, haps, order)
                self.check_own(none_for, haps, order)


class Whole(OrderCase):
    def test_told_haps_stand_as_the_haps_do(self):
        for haps in HAP_LISTS[:20]:
            for speed, beat, stretch in PLAIN[::3]:
                told = [told_from((speed, HAPS[4]), hap) for hap in haps]
                self.assertTrue(all(is_hap(hap) for hap in told))
                self.assertEqual(order_at(told, (0, 1)), order_at(haps, speed))
                self.assertEqual(sorted(orders(told)), sorted(orders(haps)))

    def test_numbers_of_forty_figures(self):
        haps = [((FORTY, OTHER_FORTY), (0, 1)), ((FORTY - 1, OTHER_FORTY), (1, FORTY)), ((1, FORTY), (OTHER_FORTY, 10 ** 39))]
        for order in itertools.permutations(range(3)):
            if order in orders_by_standard(haps):
                self.assertTrue(is_plain(speed_for(haps, order)))
            else:
                self.assertTrue(shows_none(haps, order, none_for(haps, order)))

    def test_quick_at_the_greatest_lists(self):
        program = """
import sys
sys.path.insert(0, {path!r})
from samples import EIGHT_ASUNDER, LONG_HAPS, chance_haps
from seatclocks.orders import *
def run(haps):
    for order in orders(haps) + [tuple(range(8)), (7, 6, 5, 4, 3, 2, 1, 0), (3, 1, 4, 0, 5, 2, 7, 6)]:
        speed = speed_for(haps, order)
        paper = none_for(haps, order)
        assert (speed is None) == shows_none(haps, order, paper)
    for speed in turns(haps):
        order_at(haps, speed)
for haps in [EIGHT_ASUNDER, LONG_HAPS, chance_haps(1, 8, 10 ** 40 - 1)]:
    run(haps)
    run(list(reversed(haps)))
    run(sorted(haps, key=lambda hap: -hap[0][0] * 10 ** 50 // hap[0][1]))
print("done")
""".format(path=__file__.rpartition("/")[0])
        self.assertEqual(ended_quick(program), "done\n")

    def test_refused_things_of_every_kind_stay_as_they_are(self):
        for thing in other_things():
            self.check_refused(NoHaps, orders, thing)
            self.check_refused(NoOrder, none_for, SHORT[3], thing)
            self.check_refused(NoSpeed, order_at, thing, thing)


if __name__ == "__main__":
    unittest.main()
