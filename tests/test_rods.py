import unittest

from samples import (
    FORTY, LONG_PLAIN, OTHER_FORTY, OTHER_SPEEDS, PLACES, PLAIN, PLAIN_SPEEDS, SPEEDS, Case, nested, no_fractions,
    no_gates, no_places, no_rods, no_speeds, other_things, parted, standard,
)
from seatclocks.errors import NoRod, NoSpeed, NotPlain
from seatclocks.fractions import is_less, less, times
from seatclocks.haps import is_hap
from seatclocks.rods import (
    gate_haps, is_no_longer, is_rod, length_from, like_speed, own_length, rod_from, within,
)
from seatclocks.seats import told_from
from seatclocks.speeds import is_speed, many_times, taken

ROD = ((3, 5), (0, 1), (1, 1))
BENT_ROD = ((1, 2), (0, 1), (1, 1))
STILL = ((0, 1), (-1, 2), (3, 4))
NOUGHT_HAP = ((0, 1), (0, 1))
# Each speed with some places, and all places with some speeds.
RODS = [ROD, BENT_ROD, STILL] + [
    (speed,) + PLACES[at % len(PLACES)] for at, speed in enumerate(SPEEDS)
] + [(speed,) + ends for speed in [(0, 1), (-3, 5), (2, 3)] for ends in PLACES]
GATES = PLACES + [((-1, 1), (2, 1)), ((0, 1), (3, 2)), ((-FORTY, 1), (OTHER_FORTY, 1))]


def end_by_seat(rod, end, speed):
    """Speed and place at nought of an end, as a seat of the speed tells two haps of the end."""
    seat = (speed, NOUGHT_HAP)
    one = [standard(part) for part in told_from(seat, ((0, 1), end))]
    other = [standard(part) for part in told_from(seat, ((1, 1), parted(standard(end) + standard(rod[0]))))]
    swift = (other[1] - one[1]) / (other[0] - one[0])
    return (parted(swift), parted(one[1] - swift * one[0]))


def reckoned(rod, speed):
    """The rod from the speed, as the seat of that speed tells its ends."""
    back = end_by_seat(rod, rod[1], speed)
    front = end_by_seat(rod, rod[2], speed)
    return (back[0], back[1], front[1])


def length_part(rod, speed):
    """The length of the rod from the speed, divided by the speed's beat."""
    return (standard(rod[2]) - standard(rod[1])) / (1 - standard(rod[0]) * standard(speed))


class RodCase(Case):
    def check_rod(self, told, expected):
        self.assertIs(type(told), tuple)
        self.assertEqual(len(told), 3)
        for part, whole in zip(told, expected):
            self.check_fraction(part, whole)
        self.assertIs(is_rod(told), True)

    def check_no_rod(self, call, *others):
        for thing in no_rods():
            self.check_refused(NoRod, call, thing, *others)


class IsRod(RodCase):
    def test_rods_are(self):
        self.check_told_of_anything(is_rod, RODS, True)
        self.check_told_of_anything(is_rod, [(speed,) + ends for speed in SPEEDS for ends in PLACES], True)

    def test_others_are_not(self):
        self.check_told_of_anything(is_rod, no_rods(), False)

    def test_the_speed_bent(self):
        for ends in PLACES[:2]:
            self.check_told_of_anything(is_rod, [(other,) + ends for other in no_speeds()], False)

    def test_the_ends_bent(self):
        for speed in [(0, 1), (1, 2), (-3, 5)]:
            self.check_told_of_anything(is_rod, [(speed, back, front) for back, front in no_places()], False)

    def test_truths_beside_what_they_are_like(self):
        for _ in range(2):
            for thing, expected in [
                (((0, 1), (0, 1), (1, 1)), True), (((0, True), (0, 1), (1, 1)), False),
                (((0, 1), (False, 1), (1, 1)), False), (((0, 1), (0, 1), (1, True)), False),
                (((0, 1), (0, 1), (True, 1)), False),
            ]:
                self.assertIs(is_rod(thing), expected)

    def test_sixty_deep(self):
        for kind in ["list", "tuple", "dict"]:
            for depth in [58, 59, 60]:
                self.assertIs(is_rod(nested(kind, depth)), False)
                self.assertIs(is_rod(((0, 1), (0, 1), nested(kind, depth - 1))), False)
                self.assertIs(is_rod((nested(kind, depth - 1), (0, 1), (1, 1))), False)

    def test_what_was_told_whatever_its_size(self):
        grown = rod_from(RODS[20], many_times(LONG_PLAIN[0][0], 60))
        self.assertTrue(is_rod(grown) is True)
        self.assertTrue(is_rod(rod_from(grown, (3, 5))) is True)


class FromSeats(RodCase):
    def test_ordinary_ones(self):
        for rod, speed, told in [
            (ROD, (0, 1), ROD), (ROD, (3, 5), ((0, 1), (0, 1), (5, 4))), (STILL, (3, 5), ((-3, 5), (-2, 5), (3, 5))),
            (((1, 2), (1, 1), (3, 1)), (4, 5), ((-1, 2), (1, 1), (3, 1))),
            (((-1, 2), (-1, 1), (3, 1)), (4, 5), ((-13, 14), (-3, 7), (9, 7))),
            (BENT_ROD, (-3, 5), ((11, 13), (0, 1), (8, 13))),
        ]:
            self.check_rod(rod_from(rod, speed), told)
            self.check_fraction(length_from(rod, speed), less(told[2], told[1]))

    def test_as_a_seat_tells_the_ends(self):
        for rod in RODS:
            for speed in PLAIN_SPEEDS:
                told = rod_from(rod, speed)
                self.check_rod(told, reckoned(rod, speed))
                self.check_fraction(length_from(rod, speed), less(told[2], told[1]))
                self.check_fraction(told[0], taken(rod[0], speed))

    def test_from_speed_nought(self):
        for rod in RODS:
            self.check_rod(rod_from(rod, (0, 1)), rod)
            self.check_fraction(length_from(rod, (0, 1)), less(rod[2], rod[1]))

    def test_and_back(self):
        for rod in RODS:
            for speed in PLAIN_SPEEDS:
                self.check_rod(rod_from(rod_from(rod, speed), (-speed[0], speed[1])), rod)

    def test_own_lengths(self):
        self.check_fraction(own_length(ROD), (5, 4))
        self.check_fraction(own_length(STILL), (5, 4))
        self.check_fraction(own_length(((-12, 13), (-1, 1), (4, 1))), (13, 1))
        for speed, beat, stretch in PLAIN + LONG_PLAIN:
            for ends in PLACES:
                rod = (speed,) + ends
                self.check_fraction(own_length(rod), parted((standard(ends[1]) - standard(ends[0])) / standard(beat)))
                self.check_fraction(own_length(rod), length_from(rod, speed))

    def test_no_length_is_above_the_own_one(self):
        for own in PLAIN_SPEEDS:
            rod = (own, (-1, 2), (2, 3))
            longest = own_length(rod)
            for speed in PLAIN_SPEEDS:
                self.assertIs(is_less(length_from(rod, speed), longest), speed != own)

    def test_all_seats_tell_the_own_length(self):
        for rod in [(speed,) + PLACES[2] for speed in PLAIN_SPEEDS]:
            for speed in PLAIN_SPEEDS[::3]:
                self.assertEqual(own_length(rod_from(rod, speed)), own_length(rod))

    def test_no_rods(self):
        for call in [rod_from, length_from]:
            self.check_no_rod(call, (3, 5))
            for other in [(1, 2), (1, 1), (2, 4), None]:
                self.check_refused(NoRod, call, list(ROD), other)
            self.check_no_rod(call, None)
        self.check_no_rod(own_length)

    def test_no_speeds(self):
        for call in [rod_from, length_from]:
            for rod in [ROD, BENT_ROD]:
                for thing in no_speeds():
                    self.check_refused(NoSpeed, call, rod, thing)

    def test_not_plain(self):
        for speed in OTHER_SPEEDS:
            for call in [rod_from, length_from]:
                for rod in [ROD, BENT_ROD, STILL, (speed, (0, 1), (1, 1))]:
                    self.check_refused(NotPlain, call, rod, speed)
            for ends in PLACES:
                self.check_refused(NotPlain, own_length, (speed,) + ends)

    def test_same_again(self):
        told = [rod_from(BENT_ROD, (3, 5)), length_from(BENT_ROD, (3, 5)), own_length(ROD)]
        self.check_refused(NotPlain, rod_from, BENT_ROD, (1, 2))
        self.check_refused(NotPlain, own_length, BENT_ROD)
        self.check_refused(NoRod, length_from, None, (3, 5))
        rod_from(ROD, (-4, 5))
        self.assertEqual([rod_from(BENT_ROD, (3, 5)), length_from(BENT_ROD, (3, 5)), own_length(ROD)], told)


class Longer(RodCase):
    def test_ordinary_ones(self):
        for rod, other, speed, no_longer, other_no_longer in [
            (STILL, ROD, (0, 1), False, True), (STILL, ROD, (3, 5), True, False), (STILL, STILL, (1, 2), True, True),
            (((0, 1), (0, 1), (1, 1)), ((1, 2), (0, 1), (1, 1)), (1, FORTY), True, False),
            (((0, 1), (0, 1), (1, 1)), ((1, 2), (0, 1), (1, 1)), (0, 1), True, True),
            (((0, 1), (0, 1), (1, 1)), ((1, 2), (0, 1), (1, 1)), (-1, FORTY), False, True),
        ]:
            self.assertIs(is_no_longer(rod, other, speed), no_longer)
            self.assertIs(is_no_longer(other, rod, speed), other_no_longer)

    def test_from_plain_speeds_by_the_lengths(self):
        for rod in RODS[::3]:
            for other in RODS[::2]:
                for speed in PLAIN_SPEEDS:
                    longer = is_less(length_from(other, speed), length_from(rod, speed))
                    self.assertIs(is_no_longer(rod, other, speed), not longer)

    def test_from_any_speed(self):
        for rod in RODS[::2]:
            for other in RODS[::3]:
                for speed in OTHER_SPEEDS:
                    expected = length_part(rod, speed) <= length_part(other, speed)
                    self.assertIs(is_no_longer(rod, other, speed), expected)

    def test_like_speeds_of_some(self):
        for rod, other, speed in [
            (((0, 1), (0, 1), (1, 1)), ((1, 2), (0, 1), (1, 1)), (0, 1)),
            (((1, 2), (0, 1), (1, 1)), ((-1, 3), (5, 1), (6, 1)), (0, 1)),
            (((0, 1), (0, 1), (1, 1)), ((1, 2), (0, 1), (3, 4)), (1, 2)),
            (((0, 1), (0, 1), (4, 1)), ((-3, 5), (0, 1), (3, 1)), (-5, 12)),
            (((1, 2), (0, 1), (1, 1)), ((0, 1), (0, 1), (2, 1)), None),
            (((1, 2), (0, 1), (1, 1)), ((0, 1), (0, 1), (3, 1)), None),
            (((1, 2), (0, 1), (1, 1)), ((-1, 2), (0, 1), (3, 1)), None),
            (((1, 2), (0, 1), (1, 1)), ((-1, 2), (0, 1), (2, 1)), (2, 3)),
            (((1, 2), (0, 1), (1, 1)), ((1, 2), (7, 1), (8, 1)), None),
            (((1, 2), (0, 1), (1, 1)), ((1, 2), (7, 1), (9, 1)), None),
            (((0, 1), (0, 1), (1, 1)), ((0, 1), (-1, 1), (9, 1)), None),
            (((1, 3), (0, 1), (1, 1)), ((2, 3), (0, 1), (2, 1)), None),
        ]:
            for told in [like_speed(rod, other), like_speed(other, rod)]:
                if speed is None:
                    self.assertIs(told, None)
                else:
                    self.check_fraction(told, speed)

    def test_like_speeds_are_the_only_ones(self):
        found = 0
        for rod in RODS[::2]:
            for other in RODS[::2] + RODS[1::4]:
                speed = like_speed(rod, other)
                alike = [length_part(rod, told) == length_part(other, told) for told in SPEEDS if told != speed]
                if speed is None:
                    self.assertIn(alike, [[True] * len(alike), [False] * len(alike)])
                else:
                    found += 1
                    self.assertIs(is_speed(speed), True)
                    self.assertEqual(length_part(rod, speed), length_part(other, speed))
                    self.assertIs(is_no_longer(rod, other, speed) and is_no_longer(other, rod, speed), True)
                    self.assertNotIn(True, alike)
        self.assertGreater(found, 100)

    def test_no_like_speed_but_where_it_tells_the_same_all_along(self):
        for rod in RODS[::2]:
            for other in RODS[::3]:
                if like_speed(rod, other) is None:
                    told = [is_no_longer(rod, other, speed) for speed in SPEEDS]
                    self.assertIn(told, [[True] * len(SPEEDS), [False] * len(SPEEDS)])

    def test_rods_that_are_made_as_long(self):
        for speed in SPEEDS:
            for own in [(0, 1), (3, 5), (-1, 2), (FORTY - 1, FORTY)]:
                if own != (1, 3):
                    part = (1 - standard(own) * standard(speed)) / (1 - standard((1, 3)) * standard(speed))
                    other = (own, (0, 1), parted(part))
                    self.check_fraction(like_speed(((1, 3), (0, 1), (1, 1)), other), speed)
                    self.check_fraction(like_speed(other, ((1, 3), (-2, 1), (-1, 1))), speed)

    def test_no_rods(self):
        self.check_no_rod(is_no_longer, ROD, (1, 2))
        self.check_no_rod(is_no_longer, None, None)
        self.check_no_rod(like_speed, ROD)
        self.check_no_rod(like_speed, None)
        for thing in no_rods():
            self.check_refused(NoRod, is_no_longer, ROD, thing, (1, 2))
            self.check_refused(NoRod, is_no_longer, ROD, thing, (1, 1))
            self.check_refused(NoRod, is_no_longer, ROD, thing, None)
            self.check_refused(NoRod, like_speed, ROD, thing)

    def test_no_speeds(self):
        for thing in no_speeds():
            self.check_refused(NoSpeed, is_no_longer, ROD, BENT_ROD, thing)
            self.check_refused(NoRod, is_no_longer, list(ROD), BENT_ROD, thing)

    def test_same_again(self):
        told = like_speed(ROD, STILL)
        self.assertIs(is_no_longer(ROD, STILL, (1, 2)), False)
        self.check_refused(NoSpeed, is_no_longer, ROD, STILL, None)
        self.check_refused(NoRod, like_speed, ROD, None)
        self.assertIs(like_speed(ROD, ROD), None)
        self.assertIs(is_no_longer(ROD, STILL, (1, 2)), False)
        self.assertEqual(like_speed(ROD, STILL), told)


class Gates(RodCase):
    def test_ordinary_ones(self):
        for rod, gate, times_within, haps in [
            (ROD, ((1, 1), (3, 1)), ((5, 3), (10, 3)), (((5, 3), (1, 1)), ((10, 3), (3, 1)))),
            (ROD, ((0, 1), (1, 1)), ((0, 1), (0, 1)), (NOUGHT_HAP, ((0, 1), (1, 1)))),
            (ROD, ((3, 1), (4, 1)), ((5, 1), (5, 1)), (((5, 1), (3, 1)), ((5, 1), (4, 1)))),
            (ROD, ((3, 1), (7, 2)), None, (((5, 1), (3, 1)), ((25, 6), (7, 2)))),
            (((-1, 2), (0, 1), (1, 1)), ((-5, 1), (-2, 1)), ((6, 1), (10, 1)), (((6, 1), (-2, 1)), ((10, 1), (-5, 1)))),
            (((-1, 2), (0, 1), (1, 1)), ((-5, 1), (-4, 1)), ((10, 1), (10, 1)),
             (((10, 1), (-4, 1)), ((10, 1), (-5, 1)))),
            (((-1, 2), (0, 1), (1, 1)), ((-5, 1), (-9, 2)), None, (((11, 1), (-9, 2)), ((10, 1), (-5, 1)))),
            (((-1, 2), (0, 1), (1, 1)), ((0, 1), (2, 1)), ((-2, 1), (0, 1)), (((-2, 1), (2, 1)), ((0, 1), (0, 1)))),
        ]:
            self.assertEqual(within(rod, gate), times_within)
            self.assertEqual(gate_haps(rod, gate), haps)

    def test_both_ends_are_between_the_places_then(self):
        never = 0
        for rod in RODS:
            if rod[0] == (0, 1):
                continue
            speed, back, front = [standard(part) for part in rod]
            for gate in GATES:
                near, far = standard(gate[0]), standard(gate[1])
                told = within(rod, gate)
                if front - back > far - near:
                    never += 1
                    self.assertIs(told, None)
                    continue
                self.assertIs(type(told), tuple)
                first, last = [standard(time) for time in told]
                for time in told:
                    self.check_fraction(time, time)
                self.assertLessEqual(first, last)
                for time in [first, (first + last) / 2, last]:
                    self.assertTrue(near <= back + speed * time and front + speed * time <= far)
                for time in [first - 1, first - standard((1, FORTY)), last + standard((1, FORTY)), last + 1]:
                    self.assertFalse(near <= back + speed * time and front + speed * time <= far)
        self.assertGreater(never, 50)

    def test_the_two_haps(self):
        for rod in RODS:
            if rod[0] == (0, 1):
                continue
            speed, back, front = [standard(part) for part in rod]
            for gate in GATES:
                haps = gate_haps(rod, gate)
                self.assertIs(type(haps), tuple)
                self.assertEqual([is_hap(hap) for hap in haps], [True, True])
                (first, first_place), (last, last_place) = [[standard(part) for part in hap] for hap in haps]
                ends, places = (back, front), (standard(gate[0]), standard(gate[1]))
                if speed < 0:
                    ends, places = (front, back), (standard(gate[1]), standard(gate[0]))
                self.assertEqual((first_place, last_place), places)
                self.assertEqual((first_place, last_place), (ends[0] + speed * first, ends[1] + speed * last))

    def test_within_just_where_the_first_one_is_no_later(self):
        for rod in RODS:
            for gate in GATES:
                if rod[0] != (0, 1):
                    first, last = gate_haps(rod, gate)
                    expected = None if is_less(last[0], first[0]) else (first[0], last[0])
                    self.assertEqual(within(rod, gate), expected)

    def test_from_another_seat_by_the_times_from_there(self):
        for rod in RODS[::2]:
            for gate in GATES[::2]:
                if rod[0] == (0, 1):
                    continue
                for speed in PLAIN_SPEEDS:
                    first, last = [told_from((speed, NOUGHT_HAP), hap)[0] for hap in gate_haps(rod, gate)]
                    fits = is_no_longer(rod, ((0, 1),) + gate, speed)
                    self.assertIs(is_less(last, first), not fits)

    def test_rods_that_just_fit(self):
        for rod in RODS:
            if rod[0] != (0, 1):
                told = within(rod, rod[1:])
                self.assertEqual(told, ((0, 1), (0, 1)))
                shorter = (rod[0], rod[1], parted((standard(rod[1]) + standard(rod[2])) / 2))
                self.assertIs(within(rod, shorter[1:]), None)

    def test_no_rods(self):
        for call in [within, gate_haps]:
            self.check_no_rod(call, GATES[0])
            self.check_no_rod(call, None)

    def test_no_gates(self):
        for call in [within, gate_haps]:
            for thing in no_gates():
                self.check_refused(NoRod, call, ROD, thing)
                self.check_refused(NoRod, call, STILL, thing)

    def test_rods_that_stand(self):
        for call in [within, gate_haps]:
            for ends in PLACES:
                for gate in GATES:
                    self.check_refused(NoSpeed, call, ((0, 1),) + ends, gate)

    def test_same_again(self):
        told = [within(ROD, GATES[2]), gate_haps(ROD, GATES[2])]
        self.check_refused(NoSpeed, within, STILL, GATES[2])
        self.check_refused(NoRod, gate_haps, ROD, None)
        gate_haps(((-3, 5), (0, 1), (1, 1)), GATES[2])
        self.assertEqual([within(ROD, GATES[2]), gate_haps(ROD, GATES[2])], told)


class Whole(RodCase):
    def test_numbers_of_forty_figures(self):
        rod = ((FORTY - 1, FORTY), (-FORTY, OTHER_FORTY), (1, FORTY))
        for speed, beat, stretch in LONG_PLAIN:
            self.check_rod(rod_from(rod, speed), reckoned(rod, speed))
        gate = ((-FORTY, 1), (FORTY - 1, FORTY))
        self.check_fraction(within(rod, gate)[1], parted((standard(gate[1]) - standard(rod[2])) / standard(rod[0])))

    def test_a_rod_is_no_longer_than_from_its_own_speed_from_any(self):
        for speed, beat, stretch in PLAIN + LONG_PLAIN:
            rod = (speed, (-1, 2), (2, 3))
            square = times(own_length(rod), own_length(rod))
            for other in SPEEDS:
                # A length from a speed that is not plain is no fraction, but its square is one.
                part = length_part(rod, other)
                self.assertLessEqual(part * part * (1 - standard(other) ** 2), standard(square))

    def test_refused_things_of_every_kind_stay_as_they_are(self):
        for thing in other_things() + no_fractions():
            self.check_refused(NoRod, rod_from, thing, thing)
            self.check_refused(NoSpeed, length_from, ROD, thing)
            self.check_refused(NoRod, within, ROD, thing)


if __name__ == "__main__":
    unittest.main()
