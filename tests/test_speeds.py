import fractions
import math
import unittest

from samples import (
    FORTY, FRACTIONS, LONG_PLAIN, OTHER_FORTY, OTHER_SPEEDS, PLAIN, PLAIN_SPEEDS, SPEEDS, Case, ended_quick, long_plain,
    nested, no_fractions, no_speeds, other_things, parted, standard,
)
from seatclocks.errors import NoSpeed, NoStretch, NotPlain, TooMany
from seatclocks.fractions import is_less, times
from seatclocks.speeds import (
    beat_of, is_plain, is_speed, many_times, plain_between, speed_of, stretch_of, taken, times_to_pass, together,
)

SMALL = sorted({parted(fractions.Fraction(top, bottom)) for bottom in range(1, 9) for top in range(1 - bottom, bottom)})


def both(one, other):
    """Two speeds put together, by Python's own fractions."""
    first, second = standard(one), standard(other)
    return parted((first + second) / (1 + first * second))


class SpeedCase(Case):
    def check_speed(self, told, expected):
        self.check_fraction(told, expected)
        self.assertIs(is_speed(told), True)

    def check_no_speed(self, call, *others):
        """What is no speed is refused as the first one handed in, the others being such as they are."""
        for thing in no_speeds():
            self.check_refused(NoSpeed, call, thing, *others)


class IsSpeed(SpeedCase):
    def test_speeds_are(self):
        self.check_told_of_anything(is_speed, SPEEDS + SMALL, True)

    def test_each_fraction(self):
        for one in FRACTIONS:
            self.assertIs(is_speed(one), -1 < standard(one) < 1, one)

    def test_every_small_pair(self):
        for top in range(-12, 13):
            for bottom in range(-12, 13):
                self.assertIs(is_speed((top, bottom)), abs(top) < bottom and math.gcd(top, bottom) == 1, (top, bottom))

    def test_at_the_flash_and_just_beside(self):
        for bottom in [1, 2, 1000, 10 ** 17, FORTY - 1, FORTY]:
            for sign in [1, -1]:
                self.assertIs(is_speed((sign * bottom, bottom)), False)
                self.assertIs(is_speed((sign * (bottom + 1), bottom)), False)
                self.assertIs(is_speed((sign * bottom, bottom + 1)), True)

    def test_others_are_not(self):
        self.check_told_of_anything(is_speed, no_speeds(), False)

    def test_truths_beside_what_they_are_like(self):
        for _ in range(2):
            self.assertIs(is_speed((0, 1)), True)
            self.assertIs(is_speed((0, True)), False)
            self.assertIs(is_speed((False, 1)), False)
            self.assertIs(is_speed((1, 2)), True)
            self.assertIs(is_speed((True, 2)), False)

    def test_each_place_bent(self):
        for other in other_things():
            if isinstance(other, bool) or not isinstance(other, int):
                self.assertIs(is_speed((other, 2)), False)
                self.assertIs(is_speed((1, other)), False)

    def test_sixty_deep_and_beyond(self):
        for kind in ["list", "tuple", "dict"]:
            for depth in [58, 59, 60, 61, 200]:
                self.assertIs(is_speed(nested(kind, depth)), False)

    def test_what_was_told_whatever_its_size(self):
        grown = many_times((FORTY - 2, FORTY - 1), 60)
        self.assertGreater(grown[1], 10 ** 2000)
        self.assertTrue(is_speed(grown) is True)
        self.assertTrue(is_speed(many_times(grown, -3)) is True)
        self.assertTrue(is_speed((grown[1], grown[0])) is False)


class Together(SpeedCase):
    def test_ordinary_ones(self):
        for one, other, expected in [
            ((1, 2), (1, 2), (4, 5)), ((1, 2), (1, 3), (5, 7)), ((1, 2), (-1, 3), (1, 5)), ((3, 5), (4, 5), (35, 37)),
            ((-3, 5), (-3, 5), (-15, 17)), ((1, 2), (0, 1), (1, 2)), ((0, 1), (0, 1), (0, 1)),
            ((2, 3), (-2, 3), (0, 1)),
        ]:
            self.check_speed(together(one, other), expected)

    def test_all_pairs(self):
        for one in SPEEDS + SMALL:
            for other in SPEEDS + SMALL:
                self.check_speed(together(one, other), both(one, other))

    def test_just_below_1_and_just_above_minus_1(self):
        fast, slow = (FORTY - 1, FORTY), (1 - FORTY, FORTY)
        self.check_speed(together(fast, slow), (0, 1))
        self.check_speed(together(fast, fast), both(fast, fast))
        self.check_speed(together(slow, slow), both(slow, slow))
        self.check_speed(together(fast, (FORTY - 2, FORTY - 1)), both(fast, (FORTY - 2, FORTY - 1)))

    def test_the_turn_does_not_matter_nor_which_two_first(self):
        some = SPEEDS[::3] + SMALL[::5]
        for one in some:
            for other in some:
                self.assertEqual(together(one, other), together(other, one))
                for third in some[::3]:
                    self.assertEqual(together(together(one, other), third), together(one, together(other, third)))

    def test_plain_ones_are_plain_and_their_stretches_multiplied(self):
        for one in PLAIN_SPEEDS:
            for other in PLAIN_SPEEDS:
                told = together(one, other)
                self.assertIs(is_plain(told), True)
                self.assertEqual(stretch_of(told), times(stretch_of(one), stretch_of(other)))
                self.assertIs(is_plain(taken(one, other)), True)

    def test_no_speeds(self):
        self.check_no_speed(together, (1, 2))
        for thing in no_speeds():
            self.check_refused(NoSpeed, together, (1, 2), thing)
            self.check_refused(NoSpeed, together, (-1, 1), thing)

    def test_what_would_be_by_nought(self):
        for one, other in [
            ((1, 1), (-1, 1)), ((-1, 1), (1, 1)), ((2, 1), (-1, 2)), ((1, 2), (-2, 1)), ((-1, 2), (2, 1)),
        ]:
            self.check_refused(NoSpeed, together, one, other)
            self.check_refused(NoSpeed, taken, one, (-other[0], other[1]))

    def test_same_again(self):
        told = together((1, 2), (1, 3))
        self.check_refused(NoSpeed, together, (1, 2), (1, 1))
        self.assertEqual(together((1, 2), (1, 3)), told)


class Taken(SpeedCase):
    def test_ordinary_ones(self):
        for one, other, expected in [
            ((4, 5), (1, 2), (1, 2)), ((1, 2), (4, 5), (-1, 2)), ((1, 2), (1, 3), (1, 5)), ((1, 3), (1, 2), (-1, 5)),
            ((1, 2), (-1, 2), (4, 5)), ((1, 2), (0, 1), (1, 2)), ((0, 1), (1, 2), (-1, 2)), ((2, 3), (2, 3), (0, 1)),
        ]:
            self.check_speed(taken(one, other), expected)

    def test_all_pairs(self):
        for one in SPEEDS + SMALL:
            for other in SPEEDS + SMALL:
                self.check_speed(taken(one, other), both(one, (-other[0], other[1])))

    def test_taken_off_again_they_are_what_they_were(self):
        for one in SPEEDS:
            for other in SPEEDS:
                self.check_speed(taken(together(one, other), other), one)
                self.check_speed(taken(together(one, other), one), other)
                self.check_speed(together(taken(one, other), other), one)
        # What was told is handed in again whatever its size.
        grown = many_times((FORTY - 2, FORTY - 1), 60)
        self.assertTrue(taken(together(grown, (1, 3)), grown) == (1, 3))

    def test_no_speeds(self):
        self.check_no_speed(taken, (1, 2))
        for thing in no_speeds():
            self.check_refused(NoSpeed, taken, (1, 2), thing)
            self.check_refused(NoSpeed, taken, (1, 1), thing)


class ManyTimes(SpeedCase):
    def test_ordinary_ones(self):
        for speed, often, expected in [
            ((1, 2), 0, (0, 1)), ((1, 2), 1, (1, 2)), ((1, 2), 2, (4, 5)), ((1, 2), 3, (13, 14)),
            ((1, 2), -1, (-1, 2)), ((1, 2), -2, (-4, 5)), ((-1, 2), 2, (-4, 5)), ((-1, 2), -2, (4, 5)),
            ((0, 1), 7, (0, 1)), ((0, 1), 0, (0, 1)),
        ]:
            self.check_speed(many_times(speed, often), expected)

    def test_up_to_sixty_times_either_way(self):
        for speed in [(1, 2), (-2, 3), (0, 1), (3, 5), (99, 100), (FORTY - 1, FORTY), (-1, FORTY)]:
            whole = (0, 1)
            for often in range(61):
                self.check_speed(many_times(speed, often), whole)
                self.check_speed(many_times(speed, -often), (-whole[0], whole[1]))
                whole = both(whole, speed)

    def test_so_often_and_so_often_more_is_both_at_once(self):
        for speed in [(1, 2), (-3, 5), (FORTY - 1, FORTY)]:
            for first in [-30, -7, -1, 0, 1, 2, 29, 30]:
                for second in [-30, -2, 0, 1, 30]:
                    told = together(many_times(speed, first), many_times(speed, second))
                    self.assertEqual(told, many_times(speed, first + second))

    def test_sixty_one_times(self):
        for speed in [(1, 2), (-1, 2), (0, 1), (FORTY - 1, FORTY)]:
            for often in [61, -61, 62, -62, 1000, 10 ** 39, -FORTY]:
                self.check_refused(TooMany, many_times, speed, often)

    def test_no_speeds_ahead_of_too_many(self):
        for often in [0, 1, -1, 60, 61, -61, FORTY]:
            self.check_no_speed(many_times, often)

    def test_same_again(self):
        told = many_times((1, 2), 5)
        self.check_refused(TooMany, many_times, (1, 2), 61)
        self.assertEqual(many_times((1, 2), 5), told)


class TimesToPass(SpeedCase):
    def test_ordinary_ones(self):
        for speed, other, often in [
            ((1, 2), (0, 1), 1), ((1, 2), (1, 3), 1), ((1, 2), (3, 5), 2), ((1, 2), (9, 10), 3), ((1, 10), (1, 2), 6),
            ((3, 5), (99, 100), 4), ((FORTY - 1, FORTY), (99, 100), 1),
        ]:
            self.assertEqual(times_to_pass(speed, other), often)
            self.assertIs(type(times_to_pass(speed, other)), int)

    def test_none_where_nought_is_above_already(self):
        for speed in [(1, 2), (1, FORTY), (FORTY - 1, FORTY)]:
            for other in [(-1, 2), (-1, FORTY), (1 - FORTY, FORTY)]:
                self.assertEqual(times_to_pass(speed, other), 0)
            self.assertEqual(times_to_pass(speed, (0, 1)), 1)

    def test_above_and_not_just_at_it(self):
        for speed in [(1, 2), (1, 7), (3, 5), (1, 10 ** 39)]:
            for often in [0, 1, 2, 5, 30, 58, 59]:
                reached = many_times(speed, often)
                self.assertEqual(times_to_pass(speed, reached), often + 1)

    def test_the_least_number(self):
        for speed in [one for one in SMALL if one[0] > 0]:
            for other in SMALL:
                often = times_to_pass(speed, other)
                self.assertIs(is_less(other, many_times(speed, often)), True)
                if often > 0:
                    self.assertIs(is_less(other, many_times(speed, often - 1)), False)

    def test_just_sixty_and_beyond(self):
        for speed in [(1, 100), (1, 2), (3, 5), (1, FORTY)]:
            reached = many_times(speed, 60)
            # Just below what sixty times reach, at it and beyond it.
            below = taken(reached, (speed[0], speed[1] * 1000))
            self.assertEqual(times_to_pass(speed, below), 60)
            self.assertEqual(times_to_pass(speed, many_times(speed, 59)), 60)
            self.check_refused(TooMany, times_to_pass, speed, reached)
            self.check_refused(TooMany, times_to_pass, speed, together(reached, (1, FORTY)))
        self.check_refused(TooMany, times_to_pass, (1, FORTY), (1, 2))
        self.check_refused(TooMany, times_to_pass, (1, 1000), (FORTY - 1, FORTY))

    def test_a_speed_of_nought_or_below(self):
        for speed in [(0, 1), (-1, 2), (-1, FORTY), (1 - FORTY, FORTY), (-3, 5)]:
            for other in [(0, 1), (1, 2), (-1, 2), (-99, 100), (99, 100), (FORTY - 1, FORTY), (1 - FORTY, FORTY)]:
                self.check_refused(NoSpeed, times_to_pass, speed, other)

    def test_no_speeds(self):
        for other in [(1, 2), (-1, 2), (FORTY - 1, FORTY)]:
            self.check_no_speed(times_to_pass, other)
        for thing in no_speeds():
            for speed in [(1, 2), (1, FORTY), (0, 1), (-1, 2), (1, 1)]:
                self.check_refused(NoSpeed, times_to_pass, speed, thing)


class Plain(SpeedCase):
    def test_plain_ones(self):
        for speed, beat, stretch in PLAIN + LONG_PLAIN:
            self.assertIs(is_plain(speed), True)
            self.check_fraction(beat_of(speed), beat)
            self.check_fraction(stretch_of(speed), stretch)
            self.check_speed(speed_of(stretch), speed)

    def test_the_other_way_the_beat_is_the_same_and_the_stretch_is_1_by_it(self):
        for speed, beat, stretch in PLAIN + LONG_PLAIN:
            self.assertIs(is_plain((-speed[0], speed[1])), True)
            self.check_fraction(beat_of((-speed[0], speed[1])), beat)
            self.check_fraction(stretch_of((-speed[0], speed[1])), (stretch[1], stretch[0]))

    def test_other_ones(self):
        for speed in OTHER_SPEEDS:
            self.assertIs(is_plain(speed), False)
            self.check_refused(NotPlain, beat_of, speed)
            self.check_refused(NotPlain, stretch_of, speed)

    def test_every_small_one(self):
        for bottom in range(1, 90):
            for top in [k for k in range(1 - bottom, bottom) if math.gcd(k, bottom) == 1]:
                leg = math.isqrt(bottom ** 2 - top ** 2)
                plain = top ** 2 + leg ** 2 == bottom ** 2
                self.assertIs(is_plain((top, bottom)), plain)
                if plain:
                    self.check_fraction(beat_of((top, bottom)), (leg, bottom))
                    self.check_fraction(stretch_of((top, bottom)), parted(fractions.Fraction(leg, bottom - top)))

    def test_nearly_plain_ones_of_many_figures(self):
        for top in [10 ** 19 + 1, 10 ** 19 + 9, 3 * 10 ** 19 + 1]:
            speed = long_plain(top, 10 ** 19 - 3)[0]
            self.assertIs(is_plain(speed), True)
            for near in [(speed[0] + 2, speed[1]), (speed[0] - 2, speed[1]), (speed[0], speed[1] + 2)]:
                one = parted(fractions.Fraction(near[0], near[1]))
                self.assertIs(is_plain(one), False)
                self.check_refused(NotPlain, beat_of, one)
                self.check_refused(NotPlain, stretch_of, one)

    def test_no_speeds(self):
        for call in [is_plain, beat_of, stretch_of]:
            self.check_no_speed(call)

    def test_same_again(self):
        for _ in range(2):
            self.assertEqual([is_plain((3, 5)), is_plain((1, 2))], [True, False])
            self.assertEqual([beat_of((3, 5)), stretch_of((3, 5))], [(4, 5), (2, 1)])
            self.check_refused(NotPlain, beat_of, (1, 2))
            self.check_refused(NotPlain, stretch_of, (1, 2))

    def test_what_was_told_whatever_its_size(self):
        grown = many_times(LONG_PLAIN[0][0], 60)
        self.assertGreater(grown[1], 10 ** 2000)
        self.assertTrue(is_plain(grown) is True)
        self.assertTrue(stretch_of(grown) == ((10 ** 20 - 1) ** 60, 1))
        self.assertTrue(speed_of(stretch_of(grown)) == grown)


class SpeedOf(SpeedCase):
    def test_above_at_and_below_1(self):
        for stretch, speed in [
            ((2, 1), (3, 5)), ((3, 1), (4, 5)), ((1, 1), (0, 1)), ((1, 2), (-3, 5)), ((3, 2), (5, 13)),
            ((2, 3), (-5, 13)), ((9, 1), (40, 41)),
        ]:
            self.check_speed(speed_of(stretch), speed)

    def test_each_fraction_above_nought(self):
        for one in FRACTIONS + SMALL:
            if one[0] > 0:
                square = standard(one) ** 2
                self.check_speed(speed_of(one), parted((square - 1) / (square + 1)))
                self.assertIs(is_plain(speed_of(one)), True)
                self.check_fraction(stretch_of(speed_of(one)), one)

    def test_nought_and_below(self):
        for one in [(0, 1), (-1, 1), (-1, 2), (-2, 1), (-FORTY, 1), (-1, FORTY)]:
            self.check_refused(NoStretch, speed_of, one)

    def test_other_kinds(self):
        for thing in no_fractions():
            self.check_refused(NoStretch, speed_of, thing)

    def test_same_again(self):
        for _ in range(2):
            self.check_speed(speed_of((1, 1)), (0, 1))
            self.check_refused(NoStretch, speed_of, (True, 1))
            self.check_refused(NoStretch, speed_of, (1, True))


# Asked in a Python of its own, so that a search by one bottom behind another can be stopped.
VERY_NEAR = """
from math import gcd
from seatclocks.speeds import is_plain, is_speed, plain_between
long = 10 ** 40 - 1
for number in [long - k for k in range(1, 60)] + [10 ** 39 + k for k in range(60)]:
    near = [((1, number + 1), (1, number)), ((number - 1, number), (number, number + 1)), ((0, 1), (1, number))]
    half = number // 2
    for top in [half, number // 3, number // 7]:
        # The next fraction above top by number that has no greater bottom: they are as near as can be.
        while gcd(top, number) != 1:
            top = top + 1
        below = -pow(top, -1, number) % number
        near.append(((top, number), ((1 + top * below) // number, below)))
    for low, high in list(near):
        near.append(((-high[0], high[1]), (-low[0], low[1])))
    for low, high in near:
        assert high[0] * low[1] - low[0] * high[1] == 1, (low, high)
        told = plain_between(low, high)
        assert is_speed(told) and is_plain(told)
        assert low[0] * told[1] < told[0] * low[1] and told[0] * high[1] < high[0] * told[1]
print("done")
"""


class PlainBetween(SpeedCase):
    @classmethod
    def setUpClass(cls):
        # Asked ahead of the others, which a slow search would keep for ever.
        cls.very_near = ended_quick(VERY_NEAR)

    def check_between(self, one, other):
        told = plain_between(one, other)
        self.assertIs(is_speed(told), True)
        self.assertIs(is_plain(told), True)
        self.assertLess(standard(one), standard(told))
        self.assertLess(standard(told), standard(other))
        self.assertEqual(plain_between(one, other), told)

    def test_far_from_one_another_and_near(self):
        for one, other in [
            ((1, 2), (2, 3)), ((-1, 2), (1, 2)), ((0, 1), (1, 2)), ((-1, 2), (0, 1)), ((-99, 100), (99, 100)),
            ((3, 5), (4, 5)), ((1 - FORTY, FORTY), (FORTY - 1, FORTY)), ((0, 1), (FORTY - 1, FORTY)),
            ((1 - FORTY, FORTY), (0, 1)), ((0, 1), (1, 10 ** 6)), ((-1, 10 ** 6), (0, 1)),
            ((999, 1000), (1000, 1001)), ((-1000, 1001), (-999, 1000)),
        ]:
            self.check_between(one, other)

    def test_all_pairs(self):
        for one in SPEEDS + SMALL:
            for other in SPEEDS + SMALL:
                if standard(one) < standard(other):
                    self.check_between(one, other)

    def test_very_near_ones_are_quick(self):
        self.assertEqual(self.very_near, "done\n")

    def test_nearer_and_nearer(self):
        low, high = (FORTY - 2, FORTY - 1), (FORTY - 1, FORTY)
        for _ in range(3):
            middle = plain_between(low, high)
            self.check_between(low, middle)
            self.check_between(middle, high)
            low = middle

    def test_the_first_one_not_less(self):
        for one in SPEEDS:
            self.check_refused(NoSpeed, plain_between, one, one)
        for one, other in [
            ((1, 2), (1, 3)), ((0, 1), (-1, 2)), ((1, 2), (-1, 2)), ((-1, 3), (-1, 2)),
            ((FORTY - 1, FORTY), (FORTY - 2, FORTY - 1)), ((1, FORTY), (0, 1)), ((4, 5), (3, 5)), ((-3, 5), (-4, 5)),
            ((1, OTHER_FORTY), (1, FORTY)),
        ]:
            self.check_refused(NoSpeed, plain_between, one, other)

    def test_no_speeds(self):
        self.check_no_speed(plain_between, (1, 2))
        self.check_no_speed(plain_between, (1, 1))
        for thing in no_speeds():
            self.check_refused(NoSpeed, plain_between, (-1, 2), thing)
            self.check_refused(NoSpeed, plain_between, (-1, 1), thing)


if __name__ == "__main__":
    unittest.main()
