"""What several tests share: what they hand in, reckonings to compare with, and checks."""

import copy
import fractions
import random
import subprocess
import sys
import unittest

from seatclocks.fractions import is_fraction

FORTY = 10 ** 40 - 1
OTHER_FORTY = 10 ** 39 + 7

# Nought, both signs, whole ones, neighbours, and numbers of forty figures; all in lowest terms.
FRACTIONS = [
    (0, 1), (1, 1), (-1, 1), (2, 1), (-7, 1), (1, 2), (-1, 2), (2, 3), (-2, 3), (3, 4), (5, 6),
    (-5, 6), (7, 12), (99, 100), (100, 99), (FORTY, 1), (-FORTY, 1), (1, FORTY), (-1, FORTY),
    (FORTY, FORTY - 1), (-FORTY, FORTY - 1), (FORTY - 1, FORTY), (OTHER_FORTY, 10 ** 39), (-10 ** 39, OTHER_FORTY),
]

# Speeds that are not plain: of either sign, near nought, and just below 1 and above -1.
OTHER_SPEEDS = [
    (1, 2), (-1, 2), (1, 3), (-2, 3), (3, 4), (-9, 10), (99, 100), (1, FORTY), (-1, FORTY),
    (FORTY - 1, FORTY), (1 - FORTY, FORTY), (FORTY - 2, FORTY - 1), (10 ** 39, OTHER_FORTY), (-10 ** 39, OTHER_FORTY),
]

# Plain speeds with their beats and their stretches.
PLAIN = [
    ((0, 1), (1, 1), (1, 1)), ((3, 5), (4, 5), (2, 1)), ((-3, 5), (4, 5), (1, 2)), ((4, 5), (3, 5), (3, 1)),
    ((-4, 5), (3, 5), (1, 3)), ((5, 13), (12, 13), (3, 2)), ((12, 13), (5, 13), (5, 1)), ((-12, 13), (5, 13), (1, 5)),
    ((7, 25), (24, 25), (4, 3)), ((-24, 25), (7, 25), (1, 7)), ((8, 17), (15, 17), (5, 3)), ((15, 17), (8, 17), (4, 1)),
    ((20, 29), (21, 29), (7, 3)), ((-21, 29), (20, 29), (2, 5)), ((40, 41), (9, 41), (9, 1)),
    ((-9, 41), (40, 41), (4, 5)),
]


def long_plain(top, bottom):
    """The plain speed of the stretch top by bottom, with its beat and its stretch."""
    both = top * top + bottom * bottom
    told = [(top * top - bottom * bottom, both), (2 * top * bottom, both), (top, bottom)]
    return tuple(parted(fractions.Fraction(above, below)) for above, below in told)


def parted(number):
    """Top and bottom of a fraction of Python's own library."""
    return (number.numerator, number.denominator)


def standard(one):
    """The same fraction, as Python's own library has it: a reckoning of its own to compare with."""
    return fractions.Fraction(one[0], one[1])


# Plain speeds of many figures: just below 1, just above -1, near nought on either side, and between.
LONG_PLAIN = [
    long_plain(10 ** 20 - 1, 1), long_plain(1, 10 ** 20 - 1), long_plain(10 ** 19 + 1, 10 ** 19),
    long_plain(10 ** 19, 10 ** 19 + 1), long_plain(3 * 10 ** 19 + 1, 10 ** 19 + 9), long_plain(7, 10 ** 19 + 9),
]
PLAIN_SPEEDS = [speed for speed, beat, stretch in PLAIN + LONG_PLAIN]
SPEEDS = PLAIN_SPEEDS + OTHER_SPEEDS

# What is no fraction, though all of it is nearly one.
NO_FRACTIONS = [
    (2, 4), (-2, 4), (2, 2), (0, 2), (3, -5), (-3, -5), (1, 0), (-1, 0), (0, 0), (0, -1), (FORTY, FORTY),
    (0, True), (False, 1), (False, True), (True, 1), (1, True), (True, 2), (2, True), (True, True),
    [3, 5], [0, 1], {0: 3, 1: 5}, "35", (0,), (0, 1, 1), (3, 5, None), ((3, 5),), ((3, 5), (0, 1)), ("0", "1"),
    (None, 1), (0, None),
]
NO_SPEEDS = NO_FRACTIONS + [
    (1, 1), (-1, 1), (2, 1), (-2, 1), (3, 2), (-3, 2), (FORTY, 1), (-FORTY, 1), (FORTY, FORTY - 1), (-FORTY, FORTY - 1),
]

HAPS = [
    ((0, 1), (0, 1)), ((1, 1), (0, 1)), ((0, 1), (1, 1)), ((-3, 1), (5, 1)), ((7, 3), (-2, 9)), ((-1, 2), (-1, 2)),
    ((FORTY, 1), (1, FORTY)), ((-FORTY, FORTY - 1), (OTHER_FORTY, 10 ** 39)), ((1, OTHER_FORTY), (-FORTY, 1)),
]


def nested(kind, depth):
    """Something nested so deep, of lists, of tuples or of dicts."""
    thing = 1
    for _ in range(depth):
        if kind == "list":
            thing = [thing, 2]
        elif kind == "tuple":
            thing = (thing, 2)
        else:
            thing = {"a": thing, "b": 2}
    return thing


def other_things():
    """Things that are neither a fraction nor a hap, nor built of them, new at each call."""
    return [
        None, True, False, 0, 1, -1, FORTY, "", "1/2", "(1, 2)", "12", "ab",
        (), [], {}, (1,), [1, 2], {1: 2, 2: 3}, {0: 1, 1: 2}, (None, None), ("1", "2"), ("", ""), ([], []), ({}, {}),
        [(1, 2), (1, 3)], [[1, 2], [1, 3]], ["a"] * 10000, (0,) * 10000, (1,) * 9999, "1" * 2000, ("1" * 2000, "2"),
        {k: k for k in range(5000)}, ([0] * 5000, (0,) * 4999),
        nested("list", 60), nested("tuple", 60), nested("dict", 60),
        (nested("list", 59), 1), (1, nested("tuple", 59)), (nested("tuple", 59), nested("dict", 59)),
    ]


def no_fractions():
    """Things that are no fraction, though some are nearly one."""
    return NO_FRACTIONS + [((0, 1), (0, 1))] + other_things()


def no_speeds():
    """Things that are no speed, though some are nearly one."""
    return NO_SPEEDS + other_things()


def no_haps():
    """Things that are no hap, though some are nearly one."""
    bent = [(other, (1, 2)) for other in NO_FRACTIONS] + [((1, 2), other) for other in NO_FRACTIONS]
    return bent + [
        (0, 1), (1, 2), [(0, 1), (0, 1)], ((0, 1),), ((0, 1), (0, 1), (0, 1)), {0: (0, 1), 1: (0, 1)},
        {(0, 1): (0, 1), (1, 1): (1, 1)}, "0@0", [((0, 1), (0, 1))], (((0, 1), (0, 1)),),
    ] + other_things()


def no_seats():
    """Things that are no seat, though some are nearly one."""
    hap = ((0, 1), (0, 1))
    bent = [(other, hap) for other in OTHER_SPEEDS + NO_SPEEDS] + [((3, 5), other) for other in no_haps()]
    return bent + [
        hap, (0, 1), [(3, 5), hap], [(0, 1), hap], ((3, 5),), ((3, 5), hap, hap), (hap, (3, 5)),
        ((3, 5), (0, 1), (0, 1)),
        {0: (3, 5), 1: hap}, {(0, 1): hap, (3, 5): hap}, ((3, 5), [(0, 1), (0, 1)]), ((3, 5), ([0, 1], (0, 1))),
    ] + other_things()


# A lesser place and a greater one.
PLACES = [
    ((0, 1), (1, 1)), ((-1, 2), (0, 1)), ((-7, 1), (7, 3)), ((2, 3), (3, 4)), ((-5, 6), (-2, 3)),
    ((-FORTY, 1), (FORTY, 1)), ((FORTY - 1, 1), (FORTY, 1)), ((1, FORTY), (1, FORTY - 1)),
    ((-FORTY, FORTY - 1), (OTHER_FORTY, 10 ** 39)),
]


def no_places():
    """Pairs that are not two places, the one less than the other."""
    turned = [(far, near) for near, far in PLACES] + [(near, near) for near, far in PLACES]
    bent = [(other, (5, 1)) for other in no_fractions()] + [((-5, 1), other) for other in no_fractions()]
    return turned + bent


def no_rods():
    """Things that are no rod, though some are nearly one."""
    rod = ((1, 2), (0, 1), (1, 1))
    bent = [(other, (0, 1), (1, 1)) for other in no_speeds()] + [((1, 2), back, front) for back, front in no_places()]
    return bent + [
        list(rod), rod[:2], rod[1:], rod + ((2, 1),), rod + (None,), (rod,), [rod], ((1, 2), ((0, 1), (1, 1))),
        ((0, 1), (1, 1), (1, 2)), (rod[1], rod[2]), {0: rod[0], 1: rod[1], 2: rod[2]}, {part: part for part in rod},
        ([1, 2], (0, 1), (1, 1)), ((1, 2), [0, 1], (1, 1)), ((1, 2), (0, 1), [1, 1]), (0, 0, 1), ("1/2", "0", "1"),
    ] + other_things()


def no_gates():
    """Things that are no gate, though some are nearly one."""
    return no_places() + [
        [(0, 1), (1, 1)], ((0, 1),), ((0, 1), (1, 1), (2, 1)), ((0, 1), (1, 1), None), {0: (0, 1), 1: (1, 1)},
        {(0, 1): (0, 1), (1, 1): (1, 1)}, (((0, 1), (1, 1)),), [((0, 1), (1, 1))], ((1, 2), (0, 1), (1, 1)), (0, 1),
    ] + other_things()


def haps_at(rows):
    """The haps at such times and places, whole numbers or fractions of Python's own library."""
    return [(parted(fractions.Fraction(time)), parted(fractions.Fraction(place))) for time, place in rows]


def lapse_and_gap(one, other):
    """What the other hap's time and its place are more than the one's, as fractions of Python's own library."""
    return (standard(other[0]) - standard(one[0]), standard(other[1]) - standard(one[1]))


def kind_by_standard(one, other):
    """What the other hap is to the one, as the document tells it."""
    lapse, gap = lapse_and_gap(one, other)
    if lapse == 0 and gap == 0:
        return "same"
    if lapse >= abs(gap):
        return "later"
    return "earlier" if -lapse >= abs(gap) else "beside"


def chance_haps(seed, many, span):
    """So many unlike haps, the same ones for the same seed."""
    chosen = random.Random(seed)
    rows = []
    while len(rows) < many:
        row = tuple(fractions.Fraction(chosen.randint(-span, span), chosen.choice([1, 1, 2, 3])) for _ in range(2))
        if row not in rows:
            rows.append(row)
    return haps_at(rows)


# Eight haps of which each two that are beside one another are so from a speed of their own.
EIGHT_ASUNDER = haps_at([(fractions.Fraction(at ** 3, 1000), at) for at in [0, 1, 3, 4, 6, 7, 9, 12]])
FLASH = haps_at([(at, 5 - at) for at in [0, 3, 1, 7, 2, 4, 6, 5]])
EVEN = haps_at([(0, at) for at in [4, 0, 7, 1, 3, 2, 6, 5]])
LONG_HAPS = [
    ((FORTY, 1), (1, FORTY)), ((-FORTY, FORTY - 1), (OTHER_FORTY, 10 ** 39)), ((1, OTHER_FORTY), (-FORTY, 1)),
    ((FORTY, OTHER_FORTY), (FORTY - 1, OTHER_FORTY)), ((-1, FORTY), (1, FORTY)), ((1, FORTY), (-1, FORTY)),
    ((0, 1), (0, 1)), ((FORTY - 1, 1), (1 - FORTY, 1)),
]
# Lists of one to eight haps: few and many, in and out of their turn, along flashes, at one time, of forty figures.
HAP_LISTS = [
    haps_at([(0, 0)]), haps_at([(-2, 7)]), haps_at([(0, 0), (1, 0)]), haps_at([(3, 1), (0, 0)]),
    haps_at([(0, 0), (1, 2)]), haps_at([(0, 0), (1, 1)]), haps_at([(1, -1), (0, 0)]),
    haps_at([(0, 0), (0, 1), (0, -1)]), haps_at([(0, 0), (3, 5), (6, 10), (1, 0), (4, 5)]),
    haps_at([(0, 0), (0, 4), (2, 2), (-2, 2), (0, 2)]), haps_at([(at, 0) for at in [3, 1, 2, 0, 5, 4]]),
    EIGHT_ASUNDER, list(reversed(EIGHT_ASUNDER)), FLASH, EVEN, LONG_HAPS,
] + [chance_haps(seed, 1 + seed % 8, 4) for seed in range(24)]


def no_hap_lists(most):
    """Things that are no list of one hap to so many, no two the same, though some are nearly one."""
    one, other, third = haps_at([(0, 0), (1, 3), (2, 1)])
    return [
        [], haps_at([(at, 0) for at in range(most + 1)]), haps_at([(0, at) for at in range(most + 5)]),
        [one] * 2, [one, other, ((0, 1), (0, 1))], [one, other, third, other], [one] * (most + 1),
        (one,), (one, other), one, {one: other}, {0: one, 1: other}, "0@0", ["0@0", "1@3"], [[one, other]],
        [(one, other)],
        [one, None], [None], [one, other, (0, 1)], [one, list(other)], [list(one)], [one, (list(other[0]), other[1])],
        [one, ((2, 2), (3, 1))], [one, ((1, True), (3, 1))], [one, ((True, 1), (3, 1))], [one, other + (third,)],
        [one, ((1, -1), (0, 1))], [one, [[], {}]], [{}], [[]], [one, nested("list", 58)], [(0, 1), (1, 1)],
    ] + [[one, other, thing] for thing in no_haps()[::5]] + other_things()


def ended_quick(program):
    """What the program prints, in a Python of its own that is stopped after a minute, so that a slow search is."""
    ended = subprocess.run([sys.executable, "-c", program], capture_output=True, text=True, timeout=60)
    return ended.stdout + ended.stderr


def spoil(thing):
    """Change each list and each dict in the thing."""
    if isinstance(thing, dict):
        spoil(list(thing.values()))
        thing["spoilt"] = "spoilt"
    if isinstance(thing, (list, tuple)):
        for part in thing:
            spoil(part)
    if isinstance(thing, list):
        thing.append("spoilt")


class Case(unittest.TestCase):
    def check_fraction(self, told, expected):
        """The told thing is just this fraction: of plain ints, and in a tuple."""
        self.assertEqual(told, expected)
        self.assertIs(type(told), tuple)
        self.assertEqual([type(part) for part in told], [int, int])
        self.assertIs(is_fraction(told), True)

    def check_hap(self, told, expected):
        """The told thing is just this hap."""
        self.assertIs(type(told), tuple)
        self.assertEqual(len(told), 2)
        self.check_fraction(told[0], expected[0])
        self.check_fraction(told[1], expected[1])

    def check_seat(self, told, expected):
        """The told thing is just this seat."""
        self.assertIs(type(told), tuple)
        self.assertEqual(len(told), 2)
        self.check_fraction(told[0], expected[0])
        self.check_hap(told[1], expected[1])

    def check_refused(self, refusal, call, *handed):
        """It is refused with just this class, and what is handed in is as it was."""
        twin = copy.deepcopy(handed)
        with self.assertRaises(refusal) as caught:
            call(*handed)
        self.assertIs(type(caught.exception), refusal)
        self.assertTrue(handed == twin)

    def check_told_of_anything(self, call, things, expected):
        """Each thing is told just so, twice, and is as it was afterwards."""
        for thing in things:
            twin = copy.deepcopy(thing)
            self.assertIs(call(thing), expected, str(thing)[:200])
            self.assertIs(call(thing), expected, str(thing)[:200])
            self.assertTrue(thing == twin and type(thing) is type(twin))

    def check_own(self, call, *handed):
        """What is told hangs on nothing that is done later, and is told again whatever the asker does to it."""
        lent = copy.deepcopy(handed)
        told = call(*lent)
        kept = copy.deepcopy(told)
        self.assertEqual(lent, handed)
        spoil(lent)
        self.assertEqual(told, kept)
        again = call(*handed)
        spoil(told)
        self.assertEqual(again, kept)
        self.assertEqual(call(*handed), kept)
        return kept
