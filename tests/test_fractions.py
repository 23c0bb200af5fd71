import copy
import fractions
import unittest

from samples import FORTY, FRACTIONS, OTHER_FORTY, Case, ended_quick, nested, other_things, parted, standard
from seatclocks.errors import NoFraction
from seatclocks.fractions import by, fraction, is_fraction, is_less, less, plus, root_of, times


class IsFraction(unittest.TestCase):
    def test_fractions_are(self):
        for one in FRACTIONS:
            self.assertIs(is_fraction(one), True, one)

    def test_every_small_pair(self):
        for top in range(-12, 13):
            for bottom in range(-12, 13):
                shared = [k for k in range(2, 13) if top % k == 0 and bottom % k == 0]
                self.assertIs(is_fraction((top, bottom)), bottom > 0 and shared == [], (top, bottom))

    def test_not_in_lowest_terms(self):
        for one in [(2, 2), (2, 4), (-2, 4), (-3, 3), (0, 2), (0, FORTY), (9, FORTY), (FORTY, FORTY),
                    (2 * OTHER_FORTY, 4), (OTHER_FORTY, 3 * OTHER_FORTY)]:
            self.assertIs(is_fraction(one), False, one)

    def test_bottom_nought_or_below(self):
        for one in [(0, 0), (1, 0), (-1, 0), (FORTY, 0), (1, -1), (-1, -1), (0, -1), (1, -2), (-1, -2), (1, -FORTY)]:
            self.assertIs(is_fraction(one), False, one)

    def test_each_place_bent(self):
        bent = [True, False, None, "", "1", [], [1], (), (1,), (1, 1), {}, {1: 1}, nested("list", 59), nested("tuple", 59)]
        for other in bent:
            self.assertIs(is_fraction((other, 1)), False, other)
            self.assertIs(is_fraction((1, other)), False, other)
            self.assertIs(is_fraction((other, other)), False, other)

    def test_truths_are_no_numbers(self):
        for one in [(True, 1), (False, 1), (1, True), (2, True), (0, True), (True, True), (False, True)]:
            self.assertIs(is_fraction(one), False, one)

    def test_no_tuple_of_two(self):
        for thing in [[1, 2], {1: 2, 3: 4}, "12", (1,), (1, 2, 3), (1, 2, 1), (1, 2, None), ((1, 2),), (), 1, True, None]:
            self.assertIs(is_fraction(thing), False, thing)

    def test_anything_is_answered_and_left_as_it_was(self):
        for thing, twin in zip(other_things(), copy.deepcopy(other_things())):
            self.assertIs(is_fraction(thing), False)
            self.assertIs(is_fraction(thing), False)
            self.assertTrue(thing == twin and type(thing) is type(twin))

    def test_sixty_deep_and_beyond(self):
        for kind in ["list", "tuple", "dict"]:
            for depth in [59, 60, 61, 200]:
                self.assertIs(is_fraction(nested(kind, depth)), False)

    def test_what_was_told_is_answered_whatever_its_size(self):
        grown = (FORTY, FORTY - 1)
        for _ in range(8):
            grown = times(grown, grown)
        self.assertGreater(grown[0], 10 ** 10000)
        self.assertTrue(is_fraction(grown) is True)
        self.assertTrue(plus(grown, (0, 1)) == grown)
        self.assertTrue(less(grown, grown) == (0, 1))
        self.assertTrue(by(grown, grown) == (1, 1))
        self.assertTrue(is_less(grown, grown) is False)
        self.assertTrue(times(root_of(grown), root_of(grown)) == grown)


class MakeFraction(Case):
    def test_plain_ones(self):
        for top, bottom, expected in [(1, 2, (1, 2)), (6, 4, (3, 2)), (4, 2, (2, 1)), (5, 1, (5, 1)), (7, 7, (1, 1)),
                                      (12, 18, (2, 3)), (-12, 18, (-2, 3)), (12, -18, (-2, 3)), (-12, -18, (2, 3))]:
            self.check_fraction(fraction(top, bottom), expected)

    def test_either_sign(self):
        for top, bottom, expected in [(-1, 2, (-1, 2)), (1, -2, (-1, 2)), (-1, -2, (1, 2)), (3, -1, (-3, 1)), (-3, -1, (3, 1))]:
            self.check_fraction(fraction(top, bottom), expected)

    def test_top_nought(self):
        for bottom in [1, -1, 2, -2, 30, -30, FORTY, -FORTY]:
            self.check_fraction(fraction(0, bottom), (0, 1))

    def test_forty_figures(self):
        self.check_fraction(fraction(FORTY, FORTY), (1, 1))
        self.check_fraction(fraction(FORTY, -FORTY), (-1, 1))
        self.check_fraction(fraction(FORTY, FORTY - 1), (FORTY, FORTY - 1))
        self.check_fraction(fraction(FORTY, 9), (FORTY // 9, 1))
        self.check_fraction(fraction(9, -FORTY), (-1, FORTY // 9))
        self.check_fraction(fraction(-6 * (10 ** 39 + 1), 4 * (10 ** 39 + 1)), (-3, 2))
        self.check_fraction(fraction(4 * 10 ** 39, 6 * 10 ** 39), (2, 3))

    def test_every_small_pair(self):
        for top in range(-20, 21):
            for bottom in [k for k in range(-20, 21) if k != 0]:
                self.check_fraction(fraction(top, bottom), parted(fractions.Fraction(top, bottom)))

    def test_same_again(self):
        self.assertEqual(fraction(10, -4), fraction(10, -4))

    def test_by_nought(self):
        for top in [0, 1, -1, 2, FORTY, -FORTY]:
            self.check_refused(NoFraction, fraction, top, 0)


class Reckoning(Case):
    def test_plus(self):
        self.check_fraction(plus((1, 2), (1, 3)), (5, 6))
        self.check_fraction(plus((1, 6), (1, 3)), (1, 2))
        self.check_fraction(plus((1, 2), (-1, 2)), (0, 1))
        self.check_fraction(plus((-1, 2), (-1, 2)), (-1, 1))

    def test_less(self):
        self.check_fraction(less((1, 2), (1, 3)), (1, 6))
        self.check_fraction(less((1, 3), (1, 2)), (-1, 6))
        self.check_fraction(less((1, 2), (-1, 2)), (1, 1))
        self.check_fraction(less((-2, 3), (-2, 3)), (0, 1))

    def test_times(self):
        self.check_fraction(times((2, 3), (3, 4)), (1, 2))
        self.check_fraction(times((-2, 3), (3, 2)), (-1, 1))
        self.check_fraction(times((-2, 3), (-3, 4)), (1, 2))
        self.check_fraction(times((0, 1), (-3, 4)), (0, 1))

    def test_by(self):
        self.check_fraction(by((1, 2), (3, 4)), (2, 3))
        self.check_fraction(by((1, 2), (-3, 4)), (-2, 3))
        self.check_fraction(by((-1, 2), (-1, 4)), (2, 1))
        self.check_fraction(by((0, 1), (-3, 4)), (0, 1))

    def test_is_less(self):
        self.assertIs(is_less((1, 3), (1, 2)), True)
        self.assertIs(is_less((1, 2), (1, 3)), False)
        self.assertIs(is_less((1, 2), (1, 2)), False)
        self.assertIs(is_less((-1, 2), (-1, 3)), True)
        self.assertIs(is_less((-1, 2), (0, 1)), True)
        self.assertIs(is_less((0, 1), (-1, 2)), False)
        self.assertIs(is_less((0, 1), (0, 1)), False)
        self.assertIs(is_less((FORTY - 2, FORTY - 1), (FORTY - 1, FORTY)), True)
        self.assertIs(is_less((FORTY - 1, FORTY), (FORTY - 2, FORTY - 1)), False)
        self.assertIs(is_less((1 - FORTY, FORTY), (2 - FORTY, FORTY - 1)), True)

    def test_all_pairs(self):
        for one in FRACTIONS:
            for other in FRACTIONS:
                first, second = standard(one), standard(other)
                self.check_fraction(plus(one, other), parted(first + second))
                self.check_fraction(less(one, other), parted(first - second))
                self.check_fraction(times(one, other), parted(first * second))
                self.assertIs(is_less(one, other), first < second)
                if second != 0:
                    self.check_fraction(by(one, other), parted(first / second))

    def test_by_nought(self):
        for one in FRACTIONS:
            self.check_refused(NoFraction, by, one, (0, 1))

    def test_same_again_after_a_refusal(self):
        for call in [plus, less, times, by, is_less]:
            told = call((5, 6), (-3, 4))
            self.check_refused(NoFraction, by, (5, 6), (0, 1))
            self.assertEqual(call((5, 6), (-3, 4)), told)


# Roots of many figures, asked in a Python of its own, so that a slow search can be stopped.
LONG_ROOTS = """
from seatclocks.fractions import root_of
for k in range(1, 200):
    top, bottom = 10 ** 40 - 2 * k, 10 ** 39 + 1
    assert root_of((top ** 2, 1)) == (top, 1)
    assert root_of((1, top ** 2)) == (1, top)
    assert root_of((top ** 2 + 1, 1)) is None
    assert root_of((1, top ** 2 - 1)) is None
    assert root_of((10 ** 79 + 1, 10 ** 79)) is None
assert root_of((10 ** 78, bottom ** 2)) == (10 ** 39, bottom)
print("done")
"""


class Root(Case):
    def test_squares(self):
        for one, root in [((0, 1), (0, 1)), ((1, 1), (1, 1)), ((4, 1), (2, 1)), ((1, 4), (1, 2)),
                          ((9, 16), (3, 4)), ((49, 36), (7, 6)), ((144, 1), (12, 1))]:
            self.check_fraction(root_of(one), root)

    def test_no_square(self):
        for one in [(2, 1), (3, 1), (8, 1), (1, 2), (2, 3), (8, 27), (15, 16), (17, 16)]:
            self.assertIs(root_of(one), None, one)

    def test_a_square_at_the_top_alone_or_the_bottom_alone(self):
        for one in [(4, 3), (9, 2), (1, 8), (25, 24), (3, 4), (2, 9), (8, 1), (24, 25)]:
            self.assertIs(root_of(one), None, one)

    def test_below_nought(self):
        for one in [(-1, 1), (-4, 1), (-1, 4), (-9, 16), (-2, 3), (-FORTY, 1), (-1, FORTY)]:
            self.assertIs(root_of(one), None, one)

    def test_every_fraction_and_its_square(self):
        for top, bottom in FRACTIONS:
            self.check_fraction(root_of(times((top, bottom), (top, bottom))), (abs(top), bottom))

    def test_every_small_fraction(self):
        squares = {k * k: k for k in range(30)}
        for bottom in range(1, 65):
            for top in range(-9, 65):
                one = fraction(top, bottom)
                if one[0] in squares and one[1] in squares:
                    self.check_fraction(root_of(one), (squares[one[0]], squares[one[1]]))
                else:
                    self.assertIs(root_of(one), None, one)

    def test_squares_of_nineteen_figures_and_their_neighbours(self):
        for number in [10 ** 18, 10 ** 18 + 1, 3037000500 ** 2 - 1, 10 ** 19 - 2, 10 ** 19 - 1]:
            square = number * number
            self.check_fraction(root_of((square, 1)), (number, 1))
            self.check_fraction(root_of((1, square)), (1, number))
            self.check_fraction(root_of(((number + 1) ** 2, square)), (number + 1, number))
            for near in [square - 1, square + 1]:
                self.assertIs(root_of((near, 1)), None)
                self.assertIs(root_of((1, near)), None)
                self.assertIs(root_of((near, square)), None)
                self.assertIs(root_of((square, near)), None)

    def test_quick_at_eighty_figures(self):
        self.assertEqual(ended_quick(LONG_ROOTS), "done\n")

    def test_same_again(self):
        self.assertEqual([root_of((9, 4)), root_of((2, 1)), root_of((9, 4)), root_of((2, 1))], [(3, 2), None, (3, 2), None])


if __name__ == "__main__":
    unittest.main()
