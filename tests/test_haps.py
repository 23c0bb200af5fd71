import copy
import unittest

from samples import FORTY, FRACTIONS, nested, other_things
from seatclocks.fractions import times
from seatclocks.haps import is_hap


class IsHap(unittest.TestCase):
    def test_haps_are(self):
        for time in FRACTIONS:
            for place in FRACTIONS:
                self.assertIs(is_hap((time, place)), True, (time, place))

    def test_each_place_bent(self):
        bent = other_things() + [(2, 4), (0, 2), (FORTY, FORTY), (1, 0), (0, 0), (1, -2), (True, 1), (1, True), (False, 1),
                                 (1, 2, 3), (1,), [1, 2], ((1, 2), (1, 2))]
        for other in bent:
            self.assertIs(is_hap((other, (1, 2))), False)
            self.assertIs(is_hap(((1, 2), other)), False)
            self.assertIs(is_hap((other, other)), False)

    def test_lists_in_the_place_of_tuples(self):
        for thing in [[(0, 1), (0, 1)], ([0, 1], (0, 1)), ((0, 1), [0, 1]), [[0, 1], [0, 1]],
                      {(0, 1): (0, 1), (1, 1): (1, 1)}, {0: (0, 1), 1: (0, 1)}]:
            self.assertIs(is_hap(thing), False, thing)

    def test_one_part_more_or_fewer(self):
        for thing in [(), ((0, 1),), ((0, 1), (0, 1), (0, 1)), ((0, 1), (0, 1), None), (0, 1), (((0, 1), (0, 1)),),
                      ((0, 1, 1), (0, 1)), ((0, 1), (0,)), ((0, 1), ())]:
            self.assertIs(is_hap(thing), False, thing)

    def test_anything_is_answered_and_left_as_it_was(self):
        for thing, twin in zip(other_things(), copy.deepcopy(other_things())):
            self.assertIs(is_hap(thing), False)
            self.assertIs(is_hap(thing), False)
            self.assertTrue(thing == twin and type(thing) is type(twin))

    def test_sixty_deep_and_beyond(self):
        for kind in ["list", "tuple", "dict"]:
            for depth in [58, 59, 60, 61, 200]:
                self.assertIs(is_hap(nested(kind, depth)), False)
                self.assertIs(is_hap(((0, 1), nested(kind, depth))), False)

    def test_what_was_told_is_answered_whatever_its_size(self):
        grown = (FORTY, FORTY - 1)
        for _ in range(8):
            grown = times(grown, grown)
        self.assertTrue(is_hap((grown, grown)) is True)
        self.assertTrue(is_hap((grown, (2, 4))) is False)


if __name__ == "__main__":
    unittest.main()
