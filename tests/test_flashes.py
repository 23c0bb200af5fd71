import unittest
from fractions import Fraction

from samples import (
    FORTY, HAPS, LONG_PLAIN, OTHER_FORTY, PLAIN, PLAIN_SPEEDS, Case, ended_quick, haps_at, lapse_and_gap,
    no_fractions, no_haps, no_seats, other_things, parted, standard,
)
from seatclocks.errors import NoFlash, NoFraction, NoHap, NoNumber, NoSeat, NoWay
from seatclocks.flashes import beats_come, bounces, comes_at, hap_by_flashes, sent_at, stretch_between
from seatclocks.fractions import is_less, less, plus, times
from seatclocks.haps import is_hap
from seatclocks.seats import hap_by_clock, meeting, seat_from, told_from, turned_back
from seatclocks.speeds import stretch_of, taken

NOUGHT_HAP = ((0, 1), (0, 1))
FIRST_SEAT = ((0, 1), NOUGHT_HAP)
HERE = ((3, 5), ((1, 1), (2, 1)))
THERE = ((-4, 5), ((0, 1), (-1, 2)))
SEATS = [FIRST_SEAT, HERE, THERE, ((3, 5), NOUGHT_HAP), ((3, 5), HAPS[3])] + [
    (speed, HAPS[at % len(HAPS)]) for at, speed in enumerate(PLAIN_SPEEDS)
]
TIMES = [(0, 1), (1, 1), (-1, 1), (7, 3), (-1, 2), (FORTY, 1), (-1, FORTY), (-FORTY, FORTY - 1)]
STRETCHES = {speed: standard(stretch) for speed, beat, stretch in PLAIN + LONG_PLAIN}
NO_WAYS = [0, 2, -2, FORTY, -FORTY, True, False, None, "1", "-1", (1, 1), (-1, 1), (1,), [1], [-1], {1: 1}, ""]
# What is no whole number from one to some most one.
NO_COUNTS = [0, -1, -FORTY, FORTY, True, False, None, "1", "", (1, 1), (1,), [1], [], {}, {1: 1}]


def no_gaps():
    """Things that are no fraction above nought."""
    return [(0, 1), (-1, 1), (-1, FORTY), (-FORTY, 1), 1, True] + no_fractions()


def no_counts(most):
    """Things that are no whole number from one to the most."""
    return NO_COUNTS + [most + 1, most + 2, -most] + [thing for thing in other_things() if thing != 1]


class FlashCase(Case):
    def check_flash(self, sent, come):
        """A flash goes from the one hap to the other one, which is not the earlier one."""
        lapse, gap = lapse_and_gap(sent, come)
        self.assertEqual(lapse, abs(gap))

    def check_no_seats(self, call, *others):
        for thing in no_seats():
            self.check_refused(NoSeat, call, thing, *others)


class Coming(FlashCase):
    def test_ordinary_ones(self):
        for seat, hap, come, sent in [
            (FIRST_SEAT, ((3, 1), (2, 1)), (5, 1), (1, 1)), (FIRST_SEAT, ((3, 1), (-2, 1)), (5, 1), (1, 1)),
            (FIRST_SEAT, ((3, 1), (0, 1)), (3, 1), (3, 1)), (FIRST_SEAT, ((2, 1), (2, 1)), (4, 1), (0, 1)),
            (((3, 5), NOUGHT_HAP), ((1, 1), (0, 1)), (2, 1), (1, 2)), (((3, 5), NOUGHT_HAP), ((0, 1), (1, 1)), (1, 2), (-2, 1)),
            (HERE, ((2, 1), (2, 1)), (2, 1), (1, 2)), (HERE, HERE[1], (0, 1), (0, 1)),
            (FIRST_SEAT, ((1, 2), (-1, 3)), (5, 6), (1, 6)),
        ]:
            self.check_fraction(comes_at(seat, hap), come)
            self.check_fraction(sent_at(seat, hap), sent)

    def test_by_the_time_and_the_place_that_the_seat_tells(self):
        for seat in SEATS:
            for hap in HAPS:
                time, place = [standard(part) for part in told_from(seat, hap)]
                self.check_fraction(comes_at(seat, hap), parted(time + abs(place)))
                self.check_fraction(sent_at(seat, hap), parted(time - abs(place)))

    def test_a_flash_goes_between(self):
        for seat in SEATS:
            for hap in HAPS:
                self.check_flash(hap, hap_by_clock(seat, comes_at(seat, hap)))
                self.check_flash(hap_by_clock(seat, sent_at(seat, hap)), hap)

    def test_at_the_seat_itself(self):
        for seat in SEATS:
            for time in TIMES:
                hap = hap_by_clock(seat, time)
                self.check_fraction(comes_at(seat, hap), time)
                self.check_fraction(sent_at(seat, hap), time)

    def test_along_a_flash(self):
        for seat in SEATS:
            for far in [(3, 1), (-7, 2)]:
                for way in [1, -1]:
                    place = plus(seat[1][1], (way * far[0], far[1]))
                    hap = (plus(seat[1][0], far), place)
                    told = sent_at(seat, hap) if far[0] > 0 else comes_at(seat, hap)
                    self.check_fraction(told, (0, 1))

    def test_no_seats(self):
        for call in [comes_at, sent_at]:
            self.check_no_seats(call, HAPS[1])
            self.check_no_seats(call, None)

    def test_no_haps(self):
        for call in [comes_at, sent_at]:
            for thing in no_haps():
                self.check_refused(NoHap, call, HERE, thing)


class ByFlashes(FlashCase):
    def test_ordinary_ones(self):
        for seat, sent, come, way, hap in [
            (FIRST_SEAT, (1, 1), (5, 1), 1, ((3, 1), (2, 1))), (FIRST_SEAT, (1, 1), (5, 1), -1, ((3, 1), (-2, 1))),
            (FIRST_SEAT, (3, 1), (3, 1), 1, ((3, 1), (0, 1))), (FIRST_SEAT, (3, 1), (3, 1), -1, ((3, 1), (0, 1))),
            (((3, 5), NOUGHT_HAP), (1, 2), (2, 1), -1, ((1, 1), (0, 1))),
            (((3, 5), NOUGHT_HAP), (-2, 1), (1, 2), 1, ((0, 1), (1, 1))), (HERE, (0, 1), (0, 1), 1, HERE[1]),
            (FIRST_SEAT, (-1, 2), (1, 3), 1, ((-1, 12), (5, 12))),
        ]:
            self.check_hap(hap_by_flashes(seat, sent, come, way), hap)

    def test_as_the_document_reckons(self):
        for seat in SEATS:
            for sent in TIMES:
                for come in TIMES:
                    if is_less(come, sent):
                        continue
                    for way in [1, -1]:
                        time, place = (standard(sent) + standard(come)) / 2, way * (standard(come) - standard(sent)) / 2
                        hap = hap_by_flashes(seat, sent, come, way)
                        self.check_hap(hap, turned_back(seat, (parted(time), parted(place))))
                        self.check_flash(hap_by_clock(seat, sent), hap)
                        self.check_flash(hap, hap_by_clock(seat, come))

    def test_told_back_from_when_flashes_go_and_come(self):
        for seat in SEATS:
            for hap in HAPS:
                place = told_from(seat, hap)[1]
                for way in [1, -1]:
                    if place[0] * way >= 0:
                        self.check_hap(hap_by_flashes(seat, sent_at(seat, hap), comes_at(seat, hap), way), hap)

    def test_no_seats(self):
        self.check_no_seats(hap_by_flashes, (0, 1), (1, 1), 1)
        self.check_no_seats(hap_by_flashes, None, None, None)

    def test_no_fractions(self):
        for thing in no_fractions():
            self.check_refused(NoFraction, hap_by_flashes, HERE, thing, (1, 1), 1)
            self.check_refused(NoFraction, hap_by_flashes, HERE, (0, 1), thing, 1)
            self.check_refused(NoFraction, hap_by_flashes, HERE, thing, thing, 0)

    def test_no_ways(self):
        for thing in NO_WAYS + [other for other in other_things() if other not in (1, -1)]:
            self.check_refused(NoWay, hap_by_flashes, HERE, (0, 1), (1, 1), thing)
            self.check_refused(NoWay, hap_by_flashes, HERE, (1, 1), (0, 1), thing)

    def test_no_flashes(self):
        for sent in TIMES:
            for come in TIMES:
                if is_less(come, sent):
                    for way in [1, -1]:
                        self.check_refused(NoFlash, hap_by_flashes, HERE, sent, come, way)
        self.check_refused(NoFlash, hap_by_flashes, HERE, (1, FORTY), (0, 1), 1)

    def test_in_the_order_of_the_document(self):
        for seat, sent, come, way, refusal in [
            (None, None, None, None, NoSeat), (None, (1, 1), (0, 1), 1, NoSeat), (HERE, None, (0, 1), 0, NoFraction),
            (HERE, (0, 1), None, 0, NoFraction), (HERE, (1, 1), (2, 4), True, NoFraction), (HERE, (1, 1), (0, 1), 0, NoWay),
            (HERE, (1, 1), (0, 1), True, NoWay), (HERE, (1, 1), (0, 1), 1, NoFlash), (HERE, (1, 1), (0, 1), -1, NoFlash),
        ]:
            self.check_refused(refusal, hap_by_flashes, seat, sent, come, way)

    def test_truths_beside_what_they_are_like(self):
        for _ in range(2):
            self.check_hap(hap_by_flashes(FIRST_SEAT, (1, 1), (5, 1), 1), ((3, 1), (2, 1)))
            self.check_refused(NoWay, hap_by_flashes, FIRST_SEAT, (1, 1), (5, 1), True)
            self.check_refused(NoFraction, hap_by_flashes, FIRST_SEAT, (True, 1), (5, 1), 1)


class Beats(FlashCase):
    def test_ordinary_ones(self):
        two = ((3, 5), NOUGHT_HAP)
        for one, other, time, gap, told in [
            (FIRST_SEAT, two, (0, 1), (1, 1), [(0, 1), (2, 1), (4, 1), (6, 1)]),
            (two, FIRST_SEAT, (0, 1), (1, 1), [(0, 1), (2, 1), (4, 1), (6, 1)]),
            (FIRST_SEAT, two, (-2, 1), (1, 1), [(-1, 1), (-1, 2), (0, 1), (2, 1)]),
            (FIRST_SEAT, ((0, 1), ((0, 1), (3, 1))), (1, 2), (1, 3), [(7, 2), (23, 6), (25, 6), (9, 2)]),
            (FIRST_SEAT, ((0, 1), ((2, 1), (-3, 1))), (0, 1), (5, 1), [(1, 1), (6, 1), (11, 1), (16, 1)]),
            (FIRST_SEAT, FIRST_SEAT, (7, 1), (1, 7), [(7, 1), (50, 7), (51, 7), (52, 7)]),
        ]:
            for many in [1, 2, 4]:
                self.assertEqual(beats_come(one, other, time, gap, many), told[:many])

    def test_flashes_go_between(self):
        for one in SEATS[::2]:
            for other in SEATS[::3]:
                for time, gap in [((0, 1), (1, 1)), ((-7, 3), (2, 5)), ((-FORTY, 1), (1, FORTY))]:
                    told = beats_come(one, other, time, gap, 5)
                    self.assertEqual([type(told), len(told)], [list, 5])
                    for beat, come in enumerate(told):
                        self.check_fraction(come, come)
                        sent = hap_by_clock(one, parted(standard(time) + beat * standard(gap)))
                        self.check_flash(sent, hap_by_clock(other, come))

    def test_one_to_sixty(self):
        for many in range(1, 61):
            told = beats_come(HERE, THERE, (1, 3), (2, 7), many)
            self.assertEqual(len(told), many)
            self.assertEqual(told[:20], beats_come(HERE, THERE, (1, 3), (2, 7), 60)[:many][:20])
        for many in [0, 61, 62, -1]:
            self.check_refused(NoNumber, beats_come, HERE, THERE, (1, 3), (2, 7), many)

    def test_gaps_behind_the_meeting_and_ahead_of_it(self):
        for one in SEATS[::2]:
            for other in SEATS[::3]:
                if one[0] == other[0]:
                    continue
                stretch = standard(stretch_between(one, other))
                met = told_from(one, meeting(one, other))[0]
                for time, part in [(met, stretch), (plus(met, (5, 2)), stretch), (less(met, (30, 1)), 1 / stretch)]:
                    told = [standard(come) for come in beats_come(one, other, time, (3, 1), 8)]
                    gaps = [later - sooner for sooner, later in zip(told, told[1:])]
                    self.assertEqual(gaps, [3 * part] * 7)

    def test_gaps_of_like_speeds(self):
        for speed in PLAIN_SPEEDS:
            told = [standard(come) for come in beats_come((speed, HAPS[3]), (speed, HAPS[4]), (1, 2), (2, 3), 6)]
            self.assertEqual([later - sooner for sooner, later in zip(told, told[1:])], [Fraction(2, 3)] * 5)

    def test_stretches(self):
        for one, other, stretch in [
            (FIRST_SEAT, FIRST_SEAT, (1, 1)), (FIRST_SEAT, HERE, (2, 1)), (HERE, FIRST_SEAT, (2, 1)), (HERE, HERE, (1, 1)),
            (FIRST_SEAT, THERE, (3, 1)), (HERE, THERE, (6, 1)), (THERE, HERE, (6, 1)),
            (((3, 5), HAPS[3]), ((4, 5), HAPS[4]), (3, 2)), (((4, 5), HAPS[3]), ((3, 5), HAPS[4]), (3, 2)),
        ]:
            self.check_fraction(stretch_between(one, other), stretch)

    def test_stretches_as_the_document_reckons(self):
        for one in SEATS:
            for other in SEATS:
                stretch = STRETCHES[other[0]] / STRETCHES[one[0]]
                self.check_fraction(stretch_between(one, other), parted(max(stretch, 1 / stretch)))
                speed = taken(other[0], one[0])
                self.assertIn(stretch_between(one, other), [stretch_of(speed), stretch_of((-speed[0], speed[1]))])

    def test_no_seats(self):
        for thing in no_seats():
            self.check_refused(NoSeat, beats_come, HERE, thing, (0, 1), (1, 1), 3)
            self.check_refused(NoSeat, beats_come, HERE, thing, None, None, None)
            self.check_refused(NoSeat, beats_come, thing, HERE, None, None, None)
            self.check_refused(NoSeat, stretch_between, HERE, thing)
            self.check_refused(NoSeat, stretch_between, thing, HERE)
            self.check_refused(NoSeat, stretch_between, thing, None)

    def test_no_times_and_gaps(self):
        for thing in no_fractions():
            self.check_refused(NoFraction, beats_come, HERE, THERE, thing, (1, 1), 3)
            self.check_refused(NoFraction, beats_come, HERE, THERE, thing, thing, thing)
        for thing in no_gaps():
            self.check_refused(NoFraction, beats_come, HERE, THERE, (0, 1), thing, 3)
            self.check_refused(NoFraction, beats_come, HERE, THERE, (0, 1), thing, 0)

    def test_no_numbers(self):
        for thing in no_counts(60):
            self.check_refused(NoNumber, beats_come, HERE, THERE, (0, 1), (1, 1), thing)

    def test_what_is_told_is_told_again(self):
        self.check_own(beats_come, HERE, THERE, (1, 3), (2, 7), 9)
        self.check_own(beats_come, FIRST_SEAT, FIRST_SEAT, (0, 1), (1, 1), 1)


class Bounces(FlashCase):
    def test_ordinary_ones(self):
        two = ((3, 5), NOUGHT_HAP)
        for one, other, time, told in [
            (FIRST_SEAT, two, (1, 1), [(Fraction(5, 2), Fraction(3, 2)), (4, 0), (10, 6), (16, 0)]),
            (two, FIRST_SEAT, (1, 1), [(2, 0), (5, 3), (8, 0), (20, 12)]),
            (FIRST_SEAT, two, (-16, 1), [(-10, -6), (-4, 0), (Fraction(-5, 2), Fraction(-3, 2)), (-1, 0)]),
            (FIRST_SEAT, ((0, 1), ((0, 1), (3, 1))), (1, 2), [(Fraction(7, 2), 3), (Fraction(13, 2), 0), (Fraction(19, 2), 3)]),
            (FIRST_SEAT, two, (0, 1), [(0, 0)] * 12), (FIRST_SEAT, FIRST_SEAT, (9, 1), [(9, 0)] * 12),
        ]:
            for many in range(1, len(told) + 1):
                self.assertEqual(bounces(one, other, time, many), haps_at(told[:many]))

    def test_from_seat_to_seat(self):
        for one in SEATS[::2]:
            for other in SEATS[::3]:
                for time in TIMES[:5]:
                    told = bounces(one, other, time, 5)
                    self.assertEqual([type(told), len(told)], [list, 5])
                    self.assertEqual([is_hap(hap) for hap in told], [True] * 5)
                    ahead = hap_by_clock(one, time)
                    for turn, hap in enumerate(told):
                        self.assertEqual(told_from([other, one][turn % 2], hap)[1], (0, 1))
                        self.check_flash(ahead, hap)
                        ahead = hap

    def test_towards_the_meeting_they_never_come_to_it(self):
        one, other = FIRST_SEAT, ((-3, 5), ((0, 1), (3, 1)))
        met = meeting(one, other)
        for hap in bounces(one, other, (0, 1), 12):
            self.assertTrue(is_less(hap[0], met[0]))

    def test_clocks_go_by_the_stretch(self):
        for one in SEATS[:8]:
            for other in SEATS[:8]:
                if one[0] != other[0]:
                    met = meeting(one, other)
                    stretch = stretch_between(one, other)
                    start = plus(told_from(one, met)[0], (1, 1))
                    told = bounces(one, other, start, 4)
                    clock = less(told_from(one, told[3])[0], told_from(one, met)[0])
                    square = times(stretch, stretch)
                    self.assertEqual(clock, times(square, square))

    def test_one_to_twelve(self):
        for many in range(1, 13):
            self.assertEqual(bounces(HERE, THERE, (1, 3), many), bounces(HERE, THERE, (1, 3), 12)[:many])
        for many in [0, 13, 14, 60, -1]:
            self.check_refused(NoNumber, bounces, HERE, THERE, (1, 3), many)

    def test_wrong_ones_in_the_order_of_the_document(self):
        for thing in no_seats():
            self.check_refused(NoSeat, bounces, thing, HERE, (0, 1), 3)
            self.check_refused(NoSeat, bounces, thing, HERE, None, None)
            self.check_refused(NoSeat, bounces, HERE, thing, None, None)
        for thing in no_fractions():
            self.check_refused(NoFraction, bounces, HERE, THERE, thing, 3)
            self.check_refused(NoFraction, bounces, HERE, THERE, thing, 0)
        for thing in no_counts(12):
            self.check_refused(NoNumber, bounces, HERE, THERE, (0, 1), thing)

    def test_what_is_told_is_told_again(self):
        self.check_own(bounces, HERE, THERE, (1, 3), 9)
        self.check_own(bounces, FIRST_SEAT, FIRST_SEAT, (1, 3), 2)


class Whole(FlashCase):
    def test_a_seat_tells_the_same_of_seats_that_it_tells(self):
        for seat in SEATS[::4]:
            one, other = seat_from(seat, HERE), seat_from(seat, THERE)
            self.assertEqual(beats_come(one, other, (-3, 2), (1, 1), 6), beats_come(HERE, THERE, (-3, 2), (1, 1), 6))
            self.assertEqual(stretch_between(one, other), stretch_between(HERE, THERE))
            self.assertEqual(bounces(one, other, (2, 1), 5), [told_from(seat, hap) for hap in bounces(HERE, THERE, (2, 1), 5)])

    def test_numbers_of_forty_figures_and_quick_at_the_most(self):
        program = """
import sys
sys.path.insert(0, {path!r})
from samples import FORTY, HAPS, LONG_PLAIN, OTHER_FORTY
from seatclocks.flashes import *
for one in LONG_PLAIN:
    for other in LONG_PLAIN:
        seats = ((one[0], HAPS[-2]), (other[0], HAPS[-1]))
        assert len(bounces(*seats, (-FORTY, OTHER_FORTY), 12)) == 12
        assert len(beats_come(*seats, (-FORTY, OTHER_FORTY), (OTHER_FORTY, FORTY), 60)) == 60
        stretch_between(*seats)
print("done")
""".format(path=__file__.rpartition("/")[0])
        self.assertEqual(ended_quick(program), "done\n")

    def test_at_numbers_of_forty_figures(self):
        for hap in [((FORTY, OTHER_FORTY), (-OTHER_FORTY, FORTY)), ((-FORTY, 1), (1, FORTY))]:
            for speed, beat, stretch in LONG_PLAIN:
                seat = (speed, HAPS[-1])
                self.check_flash(hap, hap_by_clock(seat, comes_at(seat, hap)))
                self.check_flash(hap_by_clock(seat, sent_at(seat, hap)), hap)

    def test_refused_things_of_every_kind_stay_as_they_are(self):
        for thing in other_things():
            self.check_refused(NoSeat, bounces, thing, thing, thing, thing)
            self.check_refused(NoHap, comes_at, HERE, thing)


if __name__ == "__main__":
    unittest.main()
