"""What several tests share: what they hand in, reckonings to compare with, and checks."""

import copy
import fractions
import subprocess
import sys
import unittest

from seatclocks.fractions import is_fraction

FORTY = 10 ** 40 - 1
OTHER_FORTY = 10 ** 39 + 7

# Nought, both signs, whole ones, neighbours, and numbers of forty figures; all in lowest terms.
FRACTIONS = [
    (0, 1), (1, 1), (-1, 1), (2, 1), (-7, 1), (1, 2), (-1, 2), (2, 3), (-2, 3), (3, 4), (5, 6),
    (-5, 6), (7, 12), (99, 100), (100, 99), (FORTY, 1), (-FORTY, 1), (1, FORTY), (-1, FORTY),
    (FORTY, FORTY - 1), (-FORTY, FORTY - 1), (FORTY - 1, FORTY), (OTHER_FORTY, 10 ** 39), (-10 ** 39, OTHER_FORTY),
]

# Speeds that are not plain: of either sign, near nought, and just below 1 and above -1.
OTHER_SPEEDS = [
    (1, 2), (-1, 2), (1, 3), (-2, 3), (3, 4), (-9, 10), (99, 100), (1, FORTY), (-1, FORTY),
    (FORTY - 1, FORTY), (1 - FORTY, FORTY), (FORTY - 2, FORTY - 1), (10 ** 39, OTHER_FORTY), (-10 ** 39, OTHER_FORTY),
]

# Plain speeds with their beats and their stretches.
PLAIN = [
    ((0, 1), (1, 1), (1, 1)), ((3, 5), (4, 5), (2, 1)), ((-3, 5), (4, 5), (1, 2)), ((4, 5), (3, 5), (3, 1)),
    ((-4, 5), (3, 5), (1, 3)), ((5, 13), (12, 13), (3, 2)), ((12, 13), (5, 13), (5, 1)), ((-12, 13), (5, 13), (1, 5)),
    ((7, 25), (24, 25), (4, 3)), ((-24, 25), (7, 25), (1, 7)), ((8, 17), (15, 17), (5, 3)), ((15, 17), (8, 17), (4, 1)),
    ((20, 29), (21, 29), (7, 3)), ((-21, 29), (20, 29), (2, 5)), ((40, 41), (9, 41), (9, 1)),
    ((-9, 41), (40, 41), (4, 5)),
]


def long_plain(top, bottom):
    """The plain speed of the stretch top by bottom, with its beat and its stretch."""
    both = top * top + bottom * bottom
    told = [(top * top - bottom * bottom, both), (2 * top * bottom, both), (top, bottom)]
    return tuple(parted(fractions.Fraction(above, below)) for above, below in told)


def parted(number):
    """Top and bottom of a fraction of Python's own library."""
    return (number.numerator, number.denominator)


def standard(one):
    """The same fraction, as Python's own library has it: a reckoning of its own to compare with."""
    return fractions.Fraction(one[0], one[1])


# Plain speeds of many figures: just below 1, just above -1, near nought on either side, and between.
LONG_PLAIN = [
    long_plain(10 ** 20 - 1, 1), long_plain(1, 10 ** 20 - 1), long_plain(10 ** 19 + 1, 10 ** 19),
    long_plain(10 ** 19, 10 ** 19 + 1), long_plain(3 * 10 ** 19 + 1, 10 ** 19 + 9), long_plain(7, 10 ** 19 + 9),
]
PLAIN_SPEEDS = [speed for speed, beat, stretch in PLAIN + LONG_PLAIN]
SPEEDS = PLAIN_SPEEDS + OTHER_SPEEDS

# What is no fraction, though all of it is nearly one.
NO_FRACTIONS = [
    (2, 4), (-2, 4), (2, 2), (0, 2), (3, -5), (-3, -5), (1, 0), (-1, 0), (0, 0), (0, -1), (FORTY, FORTY),
    (0, True), (False, 1), (False, True), (True, 1), (1, True), (True, 2), (2, True), (True, True),
    [3, 5], [0, 1], {0: 3, 1: 5}, "35", (0,), (0, 1, 1), (3, 5, None), ((3, 5),), ((3, 5), (0, 1)), ("0", "1"),
    (None, 1), (0, None),
]
NO_SPEEDS = NO_FRACTIONS + [
    (1, 1), (-1, 1), (2, 1), (-2, 1), (3, 2), (-3, 2), (FORTY, 1), (-FORTY, 1), (FORTY, FORTY - 1), (-FORTY, FORTY - 1),
]

HAPS = [
    ((0, 1), (0, 1)), ((1, 1), (0, 1)), ((0, 1), (1, 1)), ((-3, 1), (5, 1)), ((7, 3), (-2, 9)), ((-1, 2), (-1, 2)),
    ((FORTY, 1), (1, FORTY)), ((-FORTY, FORTY - 1), (OTHER_FORTY, 10 ** 39)), ((1, OTHER_FORTY), (-FORTY, 1)),
]


def nested(kind, depth):
    """Something nested so deep, of lists, of tuples or of dicts."""
    thing = 1
    for _ in range(depth):
        if kind == "list":
            thing = [thing, 2]
        elif kind == "tuple":
            thing = (thing, 2)
        else:
            thing = {"a": thing, "b": 2}
    return thing


def other_things():
    """Things that are neither a fraction nor a hap, nor built of them, new at each call."""
    return [
        None, True, False, 0, 1, -1, FORTY, "", "1/2", "(1, 2)", "12", "ab",
        (), [], {}, (1,), [1, 2], {1: 2, 2: 3}, {0: 1, 1: 2}, (None, None), ("1", "2"), ("", ""), ([], []), ({}, {}),
        [(1, 2), (1, 3)], [[1, 2], [1, 3]], ["a"] * 10000, (0,) * 10000, (1,) * 9999, "1" * 2000, ("1" * 2000, "2"),
        {k: k for k in range(5000)}, ([0] * 5000, (0,) * 4999),
        nested("list", 60), nested("tuple", 60), nested("dict", 60),
        (nested("list", 59), 1), (1, nested("tuple", 59)), (nested("tuple", 59), nested("dict", 59)),
    ]


def no_fractions():
    """Things that are no fraction, though some are nearly one."""
    return NO_FRACTIONS + [((0, 1), (0, 1))] + other_things()


def no_speeds():
    """Things that are no speed, though some are nearly one."""
    return NO_SPEEDS + other_things()


def no_haps():
    """Things that are no hap, though some are nearly one."""
    bent = [(other, (1, 2)) for other in NO_FRACTIONS] + [((1, 2), other) for other in NO_FRACTIONS]
    return bent + [
        (0, 1), (1, 2), [(0, 1), (0, 1)], ((0, 1),), ((0, 1), (0, 1), (0, 1)), {0: (0, 1), 1: (0, 1)},
        {(0, 1): (0, 1), (1, 1): (1, 1)}, "0@0", [((0, 1), (0, 1))], (((0, 1), (0, 1)),),
    ] + other_things()


def no_seats():
    """Things that are no seat, though some are nearly one."""
    hap = ((0, 1), (0, 1))
    bent = [(other, hap) for other in OTHER_SPEEDS + NO_SPEEDS] + [((3, 5), other) for other in no_haps()]
    return bent + [
        hap, (0, 1), [(3, 5), hap], [(0, 1), hap], ((3, 5),), ((3, 5), hap, hap), (hap, (3, 5)),
        ((3, 5), (0, 1), (0, 1)),
        {0: (3, 5), 1: hap}, {(0, 1): hap, (3, 5): hap}, ((3, 5), [(0, 1), (0, 1)]), ((3, 5), ([0, 1], (0, 1))),
    ] + other_things()


def ended_quick(program):
    """What the program prints, in a Python of its own that is stopped after a minute, so that a slow search is."""
    ended = subprocess.run([sys.executable, "-c", program], capture_output=True, text=True, timeout=60)
    return ended.stdout + ended.stderr


class Case(unittest.TestCase):
    def check_fraction(self, told, expected):
        """The told thing is just this fraction: of plain ints, and in a tuple."""
        self.assertEqual(told, expected)
        self.assertIs(type(told), tuple)
        self.assertEqual([type(part) for part in told], [int, int])
        self.assertIs(is_fraction(told), True)

    def check_hap(self, told, expected):
        """The told thing is just this hap."""
        self.assertIs(type(told), tuple)
        self.assertEqual(len(told), 2)
        self.check_fraction(told[0], expected[0])
        self.check_fraction(told[1], expected[1])

    def check_seat(self, told, expected):
        """The told thing is just this seat."""
        self.assertIs(type(told), tuple)
        self.assertEqual(len(told), 2)
        self.check_fraction(told[0], expected[0])
        self.check_hap(told[1], expected[1])

    def check_refused(self, refusal, call, *handed):
        """It is refused with just this class, and what is handed in is as it was."""
        twin = copy.deepcopy(handed)
        with self.assertRaises(refusal) as caught:
            call(*handed)
        self.assertIs(type(caught.exception), refusal)
        self.assertTrue(handed == twin)

    def check_told_of_anything(self, call, things, expected):
        """Each thing is told just so, twice, and is as it was afterwards."""
        for thing in things:
            twin = copy.deepcopy(thing)
            self.assertIs(call(thing), expected, str(thing)[:200])
            self.assertIs(call(thing), expected, str(thing)[:200])
            self.assertTrue(thing == twin and type(thing) is type(twin))
