import unittest

from samples import (
    FORTY, FRACTIONS, HAPS, LONG_PLAIN, OTHER_FORTY, OTHER_SPEEDS, PLAIN, PLAIN_SPEEDS, Case, nested, no_fractions,
    no_haps, no_seats, no_speeds, other_things, parted, standard,
)
from seatclocks.errors import NoFraction, NoHap, NoSeat
from seatclocks.fractions import less, plus, times
from seatclocks.seats import (
    clock_at, hap_by_clock, is_seat, meeting, place_at, seat_by, seat_from, told_from, turned_back,
)
from seatclocks.speeds import is_plain, many_times, taken

NOUGHT_HAP = ((0, 1), (0, 1))
FIRST_SEAT = ((0, 1), NOUGHT_HAP)
HERE = ((3, 5), ((1, 1), (2, 1)))
THERE = ((-4, 5), ((0, 1), (-1, 2)))
BEATS = {speed: beat for speed, beat, stretch in PLAIN + LONG_PLAIN}
# Each plain speed at some hap, and each hap with some plain speed.
SEATS = [FIRST_SEAT, HERE, THERE] + [
    (speed, HAPS[at % len(HAPS)]) for at, speed in enumerate(PLAIN_SPEEDS)
] + [(PLAIN_SPEEDS[at + 1], hap) for at, hap in enumerate(HAPS)]
TIMES = [(0, 1), (1, 1), (-1, 1), (7, 3), (-1, 2), (FORTY, 1), (-1, FORTY), (-FORTY, FORTY - 1)]


def reckoned(speed, beat, lapse, gap):
    """Time and place of what a lapse and a gap apart has from a seat, by Python's own fractions."""
    return (parted((lapse - speed * gap) / beat), parted((gap - speed * lapse) / beat))


def told_by_standard(seat, hap):
    """What a hap has from a seat, as the document reckons it."""
    lapse, gap = (standard(hap[at]) - standard(seat[1][at]) for at in [0, 1])
    return reckoned(standard(seat[0]), standard(BEATS[seat[0]]), lapse, gap)


def turned_by_standard(seat, told):
    """The hap that has the told time and place from the seat, solved from what the document reckons."""
    speed, beat, time, place = standard(seat[0]), standard(BEATS[seat[0]]), standard(told[0]), standard(told[1])
    # From time * beat = lapse - speed * gap and place * beat = gap - speed * lapse.
    lapse = (time * beat + speed * place * beat) / (1 - speed * speed)
    gap = (place * beat + speed * time * beat) / (1 - speed * speed)
    return (parted(standard(seat[1][0]) + lapse), parted(standard(seat[1][1]) + gap))


class SeatCase(Case):
    def check_told_seat(self, told, expected):
        self.check_seat(told, expected)
        self.assertIs(is_seat(told), True)

    def check_no_seat(self, call, *others):
        """What is no seat is refused as the first one handed in, the others being such as they are."""
        for thing in no_seats():
            self.check_refused(NoSeat, call, thing, *others)


class IsSeat(SeatCase):
    def test_seats_are(self):
        self.check_told_of_anything(is_seat, SEATS, True)
        self.check_told_of_anything(is_seat, [(speed, hap) for speed in PLAIN_SPEEDS for hap in HAPS], True)

    def test_others_are_not(self):
        self.check_told_of_anything(is_seat, no_seats(), False)

    def test_the_speed_bent(self):
        for hap in [NOUGHT_HAP, HAPS[-1]]:
            self.check_told_of_anything(is_seat, [(other, hap) for other in OTHER_SPEEDS + no_speeds()], False)

    def test_the_hap_bent(self):
        for speed in [(0, 1), (-3, 5)]:
            self.check_told_of_anything(is_seat, [(speed, other) for other in no_haps()], False)

    def test_the_time_and_the_place_bent(self):
        self.check_told_of_anything(is_seat, [((3, 5), (other, (0, 1))) for other in no_fractions()], False)
        self.check_told_of_anything(is_seat, [((3, 5), ((0, 1), other)) for other in no_fractions()], False)

    def test_lists_and_other_numbers_of_parts(self):
        for thing in [
            list(HERE), [HERE], (HERE,), HERE + HERE, HERE + (None,), HERE[:1], HERE[1:], (HERE[1], HERE[0]),
            (list(HERE[0]), HERE[1]), (HERE[0], list(HERE[1])), (HERE[0], HERE[1] + HERE[1]),
            {HERE[0]: HERE[1], (0, 1): HERE[1]}, {0: HERE[0], 1: HERE[1]},
        ]:
            self.assertIs(is_seat(thing), False, thing)

    def test_truths_beside_what_they_are_like(self):
        for _ in range(2):
            for thing, expected in [
                (FIRST_SEAT, True), (((0, True), NOUGHT_HAP), False), (((0, 1), ((False, 1), (0, 1))), False),
                (((0, 1), ((0, 1), (0, True))), False), (((False, 1), NOUGHT_HAP), False),
            ]:
                self.assertIs(is_seat(thing), expected)

    def test_sixty_deep_and_beyond(self):
        for kind in ["list", "tuple", "dict"]:
            for depth in [57, 58, 59, 60, 61, 200]:
                self.assertIs(is_seat(nested(kind, depth)), False)
                self.assertIs(is_seat(((0, 1), nested(kind, depth))), False)
                self.assertIs(is_seat((nested(kind, depth), NOUGHT_HAP)), False)

    def test_what_was_told_whatever_its_size(self):
        grown = many_times(LONG_PLAIN[0][0], 60)
        seat = (grown, told_from(HERE, HAPS[-1]))
        self.assertTrue(is_seat(seat) is True)
        self.assertTrue(seat_by(HERE, seat_from(HERE, seat)) == seat)
        self.assertTrue(turned_back(seat, told_from(seat, HAPS[-1])) == HAPS[-1])


class Told(SeatCase):
    def test_ordinary_ones(self):
        moving = ((3, 5), NOUGHT_HAP)
        for seat, hap, told in [
            (moving, ((1, 1), (0, 1)), ((5, 4), (-3, 4))), (moving, ((0, 1), (1, 1)), ((-3, 4), (5, 4))),
            (moving, ((5, 1), (3, 1)), ((4, 1), (0, 1))), (moving, ((1, 1), (1, 1)), ((1, 2), (1, 2))),
            (HERE, ((2, 1), (2, 1)), ((5, 4), (-3, 4))), (HERE, ((1, 1), (3, 1)), ((-3, 4), (5, 4))),
            (THERE, ((3, 1), (-1, 2)), ((5, 1), (4, 1))), (THERE, ((0, 1), (5, 2)), ((4, 1), (5, 1))),
        ]:
            self.check_hap(told_from(seat, hap), told)
            self.check_hap(turned_back(seat, told), hap)

    def test_as_the_document_reckons(self):
        for seat in SEATS:
            for hap in HAPS + [((3, 7), (3, 7)), ((5, 1), (3, 1))]:
                self.check_hap(told_from(seat, hap), told_by_standard(seat, hap))
                self.check_hap(turned_back(seat, hap), turned_by_standard(seat, hap))

    def test_what_is_told_leads_back(self):
        for seat in SEATS:
            for hap in HAPS:
                self.check_hap(turned_back(seat, told_from(seat, hap)), hap)
                self.check_hap(told_from(seat, turned_back(seat, hap)), hap)

    def test_the_own_hap_of_the_seat(self):
        for seat in SEATS:
            self.check_hap(told_from(seat, seat[1]), NOUGHT_HAP)
            self.check_hap(turned_back(seat, NOUGHT_HAP), seat[1])

    def test_the_seat_of_speed_nought_at_nought(self):
        for hap in HAPS:
            self.check_hap(told_from(FIRST_SEAT, hap), hap)
            self.check_hap(turned_back(FIRST_SEAT, hap), hap)

    def test_a_flash_goes_one_length_each_beat_for_every_seat(self):
        for seat in SEATS:
            for time in TIMES:
                for way in [1, -1]:
                    flash = (plus(seat[1][0], time), plus(seat[1][1], times((way, 1), time)))
                    told = told_from(seat, flash)
                    self.assertEqual(told[1], times((way, 1), told[0]))

    def test_no_seats(self):
        for call in [told_from, turned_back]:
            self.check_no_seat(call, HAPS[1])
            self.check_no_seat(call, None)

    def test_no_haps(self):
        for call in [told_from, turned_back]:
            for thing in no_haps():
                self.check_refused(NoHap, call, HERE, thing)

    def test_no_seat_ahead_of_no_hap(self):
        for seat in [((1, 2), NOUGHT_HAP), ((1, 1), NOUGHT_HAP), list(HERE), None, HERE[1], ((3, 5), (0, 1))]:
            for thing in [(0, 1), [(0, 1), (0, 1)], None, HERE, ((2, 4), (0, 1))]:
                self.check_refused(NoSeat, told_from, seat, thing)
                self.check_refused(NoSeat, turned_back, seat, thing)

    def test_same_again(self):
        told = told_from(HERE, HAPS[3])
        back = turned_back(HERE, HAPS[3])
        self.check_refused(NoHap, told_from, HERE, None)
        self.check_refused(NoSeat, turned_back, None, HAPS[3])
        told_from(THERE, HAPS[3])
        self.assertEqual([told_from(HERE, HAPS[3]), turned_back(HERE, HAPS[3])], [told, back])


class SeatsBySeats(SeatCase):
    def test_ordinary_ones(self):
        for first, second, told in [(((3, 5), NOUGHT_HAP), ((4, 5), NOUGHT_HAP), ((5, 13), NOUGHT_HAP)),
                                    (((4, 5), NOUGHT_HAP), ((3, 5), NOUGHT_HAP), ((-5, 13), NOUGHT_HAP)),
                                    (((3, 5), NOUGHT_HAP), FIRST_SEAT, ((-3, 5), NOUGHT_HAP)),
                                    (((3, 5), NOUGHT_HAP), ((0, 1), ((0, 1), (1, 1))), ((-3, 5), ((-3, 4), (5, 4)))),
                                    (((0, 1), ((2, 1), (5, 1))), HERE, ((3, 5), ((-1, 1), (-3, 1))))]:
            self.check_told_seat(seat_from(first, second), told)
            self.check_told_seat(seat_by(first, told), second)

    def test_as_the_document_reckons(self):
        for first in SEATS:
            for second in SEATS:
                told = (taken(second[0], first[0]), told_by_standard(first, second[1]))
                self.check_told_seat(seat_from(first, second), told)
                self.check_told_seat(seat_by(first, told), second)

    def test_a_told_seat_tells_as_it_would_by_itself(self):
        for first in SEATS[::2]:
            for second in SEATS[::3]:
                seen = seat_from(first, second)
                self.assertIs(is_plain(seen[0]), True)
                for hap in HAPS:
                    self.assertEqual(told_from(seen, told_from(first, hap)), told_from(second, hap))

    def test_and_back(self):
        for first in SEATS:
            for second in SEATS:
                self.check_told_seat(seat_by(first, seat_from(first, second)), second)
                self.check_told_seat(seat_from(first, seat_by(first, second)), second)

    def test_a_seat_from_itself(self):
        for seat in SEATS:
            self.check_told_seat(seat_from(seat, seat), FIRST_SEAT)
            self.check_told_seat(seat_by(seat, FIRST_SEAT), seat)

    def test_from_the_seat_of_speed_nought_at_nought(self):
        for seat in SEATS:
            self.check_told_seat(seat_from(FIRST_SEAT, seat), seat)
            self.check_told_seat(seat_by(FIRST_SEAT, seat), seat)

    def test_no_seats(self):
        for call in [seat_from, seat_by]:
            self.check_no_seat(call, HERE)
            self.check_no_seat(call, None)
            for thing in no_seats():
                self.check_refused(NoSeat, call, HERE, thing)

    def test_same_again(self):
        told = [seat_from(HERE, THERE), seat_by(HERE, THERE)]
        self.check_refused(NoSeat, seat_from, HERE, None)
        self.check_refused(NoSeat, seat_by, HERE, HAPS[0])
        self.assertEqual([seat_from(HERE, THERE), seat_by(HERE, THERE)], told)


class Clocks(SeatCase):
    def test_ordinary_ones(self):
        moving = ((3, 5), NOUGHT_HAP)
        self.check_hap(hap_by_clock(moving, (4, 1)), ((5, 1), (3, 1)))
        self.check_hap(hap_by_clock(HERE, (4, 1)), ((6, 1), (5, 1)))
        self.check_hap(hap_by_clock(THERE, (-3, 1)), ((-5, 1), (7, 2)))
        self.check_fraction(clock_at(moving, (5, 1)), (4, 1))
        self.check_fraction(clock_at(HERE, (0, 1)), (-4, 5))
        self.check_fraction(clock_at(THERE, (1, 1)), (3, 5))
        self.check_fraction(place_at(moving, (5, 1)), (3, 1))
        self.check_fraction(place_at(HERE, (0, 1)), (7, 5))
        self.check_fraction(place_at(THERE, (1, 1)), (-13, 10))

    def test_as_the_document_reckons(self):
        for seat in SEATS:
            for time in TIMES + FRACTIONS[::4]:
                self.check_hap(hap_by_clock(seat, time), turned_by_standard(seat, (time, (0, 1))))
                lapse = standard(time) - standard(seat[1][0])
                self.check_fraction(clock_at(seat, time), parted(lapse * standard(BEATS[seat[0]])))
                self.check_fraction(place_at(seat, time), parted(standard(seat[1][1]) + standard(seat[0]) * lapse))

    def test_from_one_another(self):
        for seat in SEATS:
            for time in TIMES:
                hap = hap_by_clock(seat, time)
                self.assertEqual(told_from(seat, hap), (time, (0, 1)))
                self.assertEqual(clock_at(seat, hap[0]), time)
                self.assertEqual(place_at(seat, hap[0]), hap[1])
                self.assertEqual(hap_by_clock(seat, clock_at(seat, time)), (time, place_at(seat, time)))

    def test_at_the_own_hap(self):
        for seat in SEATS:
            self.check_hap(hap_by_clock(seat, (0, 1)), seat[1])
            self.check_fraction(clock_at(seat, seat[1][0]), (0, 1))
            self.check_fraction(place_at(seat, seat[1][0]), seat[1][1])

    def test_no_seats(self):
        for call in [hap_by_clock, clock_at, place_at]:
            self.check_no_seat(call, (1, 2))
            self.check_no_seat(call, None)

    def test_no_fractions(self):
        for call in [hap_by_clock, clock_at, place_at]:
            for thing in no_fractions():
                self.check_refused(NoFraction, call, HERE, thing)

    def test_no_seat_ahead_of_no_fraction(self):
        for call in [hap_by_clock, clock_at, place_at]:
            for seat in [((1, 2), NOUGHT_HAP), ((1, 1), NOUGHT_HAP), list(HERE), None, HERE[1], ((3, 5), (0, 1))]:
                for thing in [(2, 4), [0, 1], None, NOUGHT_HAP, 1, True]:
                    self.check_refused(NoSeat, call, seat, thing)

    def test_same_again(self):
        for call in [hap_by_clock, clock_at, place_at]:
            told = call(HERE, (7, 3))
            self.check_refused(NoFraction, call, HERE, None)
            self.check_refused(NoSeat, call, None, (7, 3))
            call(THERE, (7, 3))
            self.assertEqual(call(HERE, (7, 3)), told)


class Meeting(SeatCase):
    def test_ordinary_ones(self):
        for one, other, hap in [
            (FIRST_SEAT, ((3, 5), NOUGHT_HAP), NOUGHT_HAP),
            (FIRST_SEAT, ((-3, 5), ((0, 1), (3, 1))), ((5, 1), (0, 1))),
            (((3, 5), NOUGHT_HAP), ((-3, 5), ((0, 1), (6, 1))), ((5, 1), (3, 1))),
            (((3, 5), ((1, 1), (0, 1))), ((4, 5), ((0, 1), (0, 1))), ((-3, 1), (-12, 5))),
            (((0, 1), ((9, 1), (4, 1))), ((4, 5), NOUGHT_HAP), ((5, 1), (4, 1))),
        ]:
            self.check_hap(meeting(one, other), hap)
            self.check_hap(meeting(other, one), hap)

    def test_of_unlike_speeds_both_are_there(self):
        for one in SEATS:
            for other in SEATS:
                if one[0] != other[0]:
                    hap = meeting(one, other)
                    self.check_hap(hap, meeting(other, one))
                    self.assertEqual(told_from(one, hap)[1], (0, 1))
                    self.assertEqual(told_from(other, hap)[1], (0, 1))

    def test_of_like_speeds_none(self):
        for one in SEATS:
            self.assertIs(meeting(one, one), None)
            for hap in HAPS:
                self.assertIs(meeting(one, (one[0], hap)), None)
                self.assertIs(meeting((one[0], hap), one), None)

    def test_of_speeds_the_other_way(self):
        for speed, beat, stretch in PLAIN + LONG_PLAIN:
            if speed != (0, 1):
                one, other = (speed, HAPS[3]), ((-speed[0], speed[1]), HAPS[4])
                hap = meeting(one, other)
                self.assertEqual([told_from(one, hap)[1], told_from(other, hap)[1]], [(0, 1), (0, 1)])

    def test_at_one_hap_of_both(self):
        for hap in HAPS:
            self.check_hap(meeting(((3, 5), hap), ((-5, 13), hap)), hap)
            self.check_hap(meeting(((0, 1), hap), (LONG_PLAIN[0][0], hap)), hap)

    def test_seats_told_by_a_seat_meet_at_the_told_hap(self):
        for first in SEATS[::4]:
            for one, other in [(HERE, THERE), (SEATS[5], SEATS[6]), (SEATS[-1], SEATS[-4])]:
                met = meeting(seat_from(first, one), seat_from(first, other))
                self.assertEqual(met, told_from(first, meeting(one, other)))

    def test_no_seats(self):
        self.check_no_seat(meeting, HERE)
        self.check_no_seat(meeting, None)
        for thing in no_seats():
            self.check_refused(NoSeat, meeting, HERE, thing)

    def test_same_again(self):
        told = meeting(HERE, THERE)
        self.check_refused(NoSeat, meeting, HERE, None)
        self.assertIs(meeting(HERE, HERE), None)
        self.assertEqual(meeting(HERE, THERE), told)


class Whole(SeatCase):
    """What holds of stages 2 and 3 together."""

    def test_moving_clocks_go_slow(self):
        for seat in SEATS:
            for time in TIMES:
                told = less(clock_at(seat, plus(time, (1, 1))), clock_at(seat, time))
                self.check_fraction(told, BEATS[seat[0]])

    def test_numbers_of_forty_figures(self):
        speed, beat, _ = LONG_PLAIN[0]
        seat = (speed, ((FORTY, OTHER_FORTY), (-OTHER_FORTY, FORTY)))
        hap = ((-FORTY, 1), (1, FORTY))
        self.check_hap(told_from(seat, hap), told_by_standard(seat, hap))
        self.check_hap(turned_back(seat, told_from(seat, hap)), hap)
        self.check_fraction(clock_at(seat, (FORTY, 1)), parted((FORTY - standard(seat[1][0])) * standard(beat)))

    def test_refused_things_of_every_kind_stay_as_they_are(self):
        for thing in other_things():
            self.check_refused(NoHap, told_from, HERE, thing)
            self.check_refused(NoFraction, clock_at, HERE, thing)
            self.check_refused(NoSeat, seat_by, HERE, thing)
            self.check_refused(NoSeat, meeting, thing, thing)


if __name__ == "__main__":
    unittest.main()
