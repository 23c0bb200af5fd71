import itertools
import unittest

from samples import (
    EVEN, FLASH, FORTY, HAP_LISTS, LONG_HAPS, PLAIN, Case, chance_haps, ended_quick, haps_at,
    kind_by_standard, nested, no_hap_lists, other_things,
)
from seatclocks.chains import (
    between, fewest_chains, is_chain, longest_chain, reached, shows_fewest, steps_of,
)
from seatclocks.errors import NoHaps, NoNumber
from seatclocks.seats import told_from

# From one hap each to the next, all apart, two rows beside one another, a grid along the flashes, and mixed ones.
TWELVE_BEHIND = haps_at([(at, at % 2) for at in range(12)])
TWELVE_APART = haps_at([(at % 2, 3 * at) for at in range(12)])
ROWS = haps_at([(at, place) for place in [0, 20, 40] for at in range(4)])
GRID = haps_at([(i + k, i - k) for i in range(4) for k in range(3)])
LONG_LIST = LONG_HAPS + [((FORTY, 2), (at, 1)) for at in [FORTY, -FORTY, 1, -1]]
MIXED = haps_at([(0, 0), (5, 0), (2, 1), (2, -1), (4, 9), (1, 0), (3, 0), (3, 7)])
LISTS = HAP_LISTS[::2] + [TWELVE_BEHIND, TWELVE_APART, ROWS, GRID, LONG_LIST, MIXED] + [
    list(reversed(haps)) for haps in [TWELVE_BEHIND, TWELVE_APART, ROWS, GRID, LONG_LIST, MIXED]
] + [chance_haps(100 + seed, 1 + seed % 12, 2 + seed % 5) for seed in range(48)]
SHORT = [haps for haps in LISTS if len(haps) <= 5]


def ahead_by_standard(haps):
    """The pairs of numbers of which the first one can reach the second one."""
    numbers = range(len(haps))
    return {(i, j) for i in numbers for j in numbers if kind_by_standard(haps[i], haps[j]) == "later"}


def chains_from(ahead, many):
    """All chains, each tried from what can reach what."""
    found, newest = [], [(at,) for at in range(many)]
    while newest:
        found += newest
        newest = [chain + (at,) for chain in newest for at in range(many) if (chain[-1], at) in ahead]
    return found


def most_apart(ahead, many):
    """How many haps are apart at most, each choice being tried."""
    for size in range(many, 0, -1):
        for chosen in itertools.combinations(range(many), size):
            if not any(pair in ahead for pair in itertools.permutations(chosen, 2)):
                return size
    return 0


def shows_by_standard(haps, chains, apart):
    """Whether chains, a list of tuples of numbers, and a tuple of numbers are such a tuple as the document tells."""
    ahead = ahead_by_standard(haps)
    linked = all(pair in ahead for chain in chains for pair in zip(chain, chain[1:]))
    held = sorted(number for chain in chains for number in chain) == list(range(len(haps)))
    rising = all(one < other for one, other in zip(apart, apart[1:])) and all(0 <= at < len(haps) for at in apart)
    parted = not any(pair in ahead for pair in itertools.permutations(apart, 2))
    return all(chains) and linked and held and rising and parted and len(apart) == len(chains)


def no_chains(haps):
    """Things that are no chain, though some are nearly one."""
    many = len(haps)
    return [
        (), [], [0], [0, 1], 0, "0", "01", {0: 1}, (many,), (-1,), (0, many), (many, 0), (-1, 0), (0, -1), (many + 5,),
        (0, 0), (0, 0, 0), (FORTY,), (-FORTY,), (FORTY, 0), (False,), (True,), (False, 0), (0, True), (None,), ("0",),
        (0, None), (None, 0), (0, "1"), ((0,),), ((0, 1),), ([],), ({},), (0, []), (0, {}), (0,) * 10000,
        tuple(range(many)) * 2, tuple(haps), (0,) + tuple(haps), tuple(range(10000)),
    ] + [thing for thing in other_things() if thing != (1,)]


class ChainCase(Case):
    def check_no_haps(self, call, *others):
        for thing in no_hap_lists(12):
            self.check_refused(NoHaps, call, thing, *others)


class Reach(ChainCase):
    def test_ordinary_ones(self):
        self.assertEqual(reached(MIXED), [[1, 2, 3, 5, 6], [], [1, 6], [1, 6], [], [1, 2, 3, 6], [1], []])
        self.assertEqual(reached(haps_at([(0, 0)])), [[]])
        self.assertEqual(reached(FLASH)[0], [1, 2, 3, 4, 5, 6, 7])
        self.assertEqual(reached(FLASH)[3], [])
        self.assertEqual(reached(EVEN), [[]] * 8)
        self.assertEqual(reached(GRID)[4], [5, 7, 8, 10, 11])

    def test_as_the_document_reckons(self):
        for haps in LISTS:
            told = self.check_own(reached, haps)
            ahead = ahead_by_standard(haps)
            numbers = range(len(haps))
            self.assertEqual(told, [[j for j in numbers if (i, j) in ahead] for i in numbers])
            self.assertEqual([type(row) for row in told], [list] * len(haps))

    def test_all_seats_tell_the_same(self):
        for haps in [MIXED, GRID, ROWS, LONG_LIST]:
            for speed, beat, stretch in PLAIN:
                told = [told_from((speed, haps[1]), hap) for hap in haps]
                self.assertEqual(reached(told), reached(haps))
                self.assertEqual([len(fewest_chains(told)[0]), steps_of(told)], [len(fewest_chains(haps)[0]), steps_of(haps)])

    def test_between(self):
        for i, j, told in [(0, 1, [2, 3, 5, 6]), (0, 6, [2, 3, 5]), (5, 1, [2, 3, 6]), (1, 0, []), (6, 0, []), (2, 3, []),
                           (4, 7, []), (6, 1, []), (0, 2, [5])]:
            self.assertEqual(between(MIXED, i, j), told)

    def test_between_as_the_document_reckons(self):
        for haps in LISTS:
            ahead = ahead_by_standard(haps)
            numbers = range(len(haps))
            for i, j in itertools.permutations(numbers, 2):
                told = between(haps, i, j)
                self.assertIs(type(told), list)
                self.assertEqual(told, [at for at in numbers if (i, at) in ahead and (at, j) in ahead])
        self.check_own(between, MIXED, 0, 1)
        self.check_own(between, MIXED, 1, 0)

    def test_between_of_no_numbers(self):
        for haps in [MIXED, GRID]:
            wrong = [-1, len(haps), len(haps) + 1, -len(haps), FORTY, -FORTY, True, False, None, "0", "1", (0,), [0], (1, 1), {}]
            for thing in wrong + [other for other in other_things() if other not in (0, 1)]:
                self.check_refused(NoNumber, between, haps, thing, 1)
                self.check_refused(NoNumber, between, haps, 0, thing)
                self.check_refused(NoNumber, between, haps, thing, thing)
            for at in range(len(haps)):
                self.check_refused(NoNumber, between, haps, at, at)
        self.check_refused(NoNumber, between, haps_at([(0, 0)]), 0, 0)
        self.check_refused(NoNumber, between, haps_at([(0, 0)]), 0, 1)

    def test_no_haps(self):
        self.check_no_haps(reached)
        self.check_no_haps(between, 0, 1)
        self.check_no_haps(between, None, -1)

    def test_twelve_haps_are_taken_and_thirteen_are_not(self):
        haps = haps_at([(at, 0) for at in range(13)])
        self.assertEqual(reached(haps[:12])[0], list(range(1, 12)))
        self.assertEqual(longest_chain(haps[:12]), tuple(range(12)))
        for call in [reached, longest_chain, fewest_chains, steps_of]:
            self.check_refused(NoHaps, call, haps)
            self.check_refused(NoHaps, call, [])


class Chains(ChainCase):
    def test_ordinary_ones(self):
        for thing, expected in [
            ((0,), True), ((7,), True), ((0, 1), True), ((0, 5, 2, 6, 1), True), ((0, 5, 3, 6, 1), True), ((5, 6), True),
            ((1, 0), False), ((0, 2, 3), False), ((0, 1, 5), False), ((0, 4), False), ((0, 5, 2, 6, 1, 1), False),
            ((8,), False), ((-1,), False), ((0, -7), False), ((0, True), False), ((False,), False), ([0, 1], False), ((), False),
        ]:
            self.assertIs(is_chain(MIXED, thing), expected, thing)

    def test_all_chains_and_no_others(self):
        for haps in SHORT:
            chains = chains_from(ahead_by_standard(haps), len(haps))
            self.check_told_of_anything(lambda thing: is_chain(haps, thing), chains, True)
            for length in range(1, 4):
                for thing in itertools.product(range(-1, len(haps) + 1), repeat=length):
                    self.assertIs(is_chain(haps, thing), thing in chains)

    def test_things_that_are_no_chain(self):
        for haps in [MIXED, GRID, haps_at([(0, 0)])]:
            self.check_told_of_anything(lambda thing: is_chain(haps, thing), no_chains(haps), False)

    def test_longest_of_some(self):
        self.assertEqual(longest_chain(MIXED), (0, 5, 2, 6, 1))
        self.assertEqual(longest_chain(TWELVE_BEHIND), tuple(range(12)))
        self.assertEqual(longest_chain(TWELVE_APART), (0,))
        self.assertEqual(longest_chain(ROWS), (0, 1, 2, 3))
        self.assertEqual(longest_chain(list(reversed(ROWS))), (3, 2, 1, 0))
        self.assertEqual(longest_chain(FLASH), (0, 2, 4, 1, 5, 7, 6, 3))
        self.assertEqual(longest_chain(haps_at([(5, 0), (0, 9), (6, 0), (1, 9)])), (0, 2))
        self.assertEqual(longest_chain(haps_at([(6, 0), (1, 9), (5, 0), (0, 9)])), (2, 0))

    def test_longest_as_the_document_reckons(self):
        for haps in LISTS:
            told = longest_chain(haps)
            self.assertIs(type(told), tuple)
            self.assertEqual([type(number) for number in told], [int] * len(told))
            self.assertIs(is_chain(haps, told), True)
            if len(haps) <= 9 or len(told) < 6:
                chains = chains_from(ahead_by_standard(haps), len(haps))
                most = max(len(chain) for chain in chains)
                self.assertEqual(told, min(chain for chain in chains if len(chain) == most))
            self.assertEqual(longest_chain(haps), told)

    def test_steps_of_some(self):
        self.assertEqual(steps_of(MIXED), [1, 5, 3, 3, 1, 2, 4, 1])
        self.assertEqual(steps_of(TWELVE_BEHIND), list(range(1, 13)))
        self.assertEqual(steps_of(list(reversed(TWELVE_BEHIND))), list(range(12, 0, -1)))
        self.assertEqual(steps_of(TWELVE_APART), [1] * 12)
        self.assertEqual(steps_of(FLASH), [1, 4, 2, 8, 3, 5, 7, 6])

    def test_steps_as_the_document_reckons(self):
        for haps in LISTS:
            told = self.check_own(steps_of, haps)
            ahead = ahead_by_standard(haps)
            self.assertEqual(max(told), len(longest_chain(haps)))
            if len(longest_chain(haps)) < 7:
                chains = chains_from(ahead, len(haps))
                self.assertEqual(told, [max(len(chain) for chain in chains if chain[-1] == at) for at in range(len(haps))])
            for i, j in itertools.permutations(range(len(haps)), 2):
                if (i, j) in ahead:
                    self.assertLess(told[i], told[j])

    def test_no_haps(self):
        self.check_no_haps(is_chain, (0,))
        self.check_no_haps(is_chain, None)
        self.check_no_haps(longest_chain)
        self.check_no_haps(steps_of)


class Fewest(ChainCase):
    def check_fewest(self, haps, told):
        self.assertIs(type(told), tuple)
        chains, apart = told
        self.assertEqual([type(chains), type(apart)], [list, tuple])
        self.assertEqual([type(chain) for chain in chains], [tuple] * len(chains))
        self.assertEqual({type(number) for chain in chains + [apart] for number in chain}, {int})
        self.assertIs(shows_by_standard(haps, chains, apart), True)
        self.assertIs(shows_fewest(haps, told), True)

    def test_ordinary_ones(self):
        for haps, many in [(MIXED, 4), (TWELVE_BEHIND, 1), (TWELVE_APART, 12), (ROWS, 3), (GRID, 3), (FLASH, 1), (EVEN, 8)]:
            for told in [fewest_chains(haps), fewest_chains(list(reversed(haps)))]:
                self.assertEqual([len(told[0]), len(told[1])], [many, many])
        self.assertEqual(fewest_chains(haps_at([(4, 2)])), ([(0,)], (0,)))
        self.assertEqual(fewest_chains(haps_at([(4, 2), (1, 0)])), ([(1, 0)], fewest_chains(haps_at([(4, 2), (1, 0)]))[1]))
        self.assertEqual(fewest_chains(haps_at([(4, 2), (4, 3)]))[1], (0, 1))

    def test_as_few_as_haps_are_apart(self):
        for haps in LISTS:
            told = self.check_own(fewest_chains, haps)
            self.check_fewest(haps, told)
            self.assertEqual(len(told[0]), most_apart(ahead_by_standard(haps), len(haps)))

    def test_more_by_chance(self):
        for seed in range(300):
            haps = chance_haps(1000 + seed, 5 + seed % 8, 3)
            self.check_fewest(haps, fewest_chains(haps))

    def test_all_choices_of_short_lists(self):
        shown = 0
        for haps in [haps for haps in SHORT if 2 <= len(haps) <= 3][:8]:
            numbers = range(len(haps))
            rows = [row for size in range(0, 4) for row in itertools.product(numbers, repeat=size)]
            for many in [1, 2, 3]:
                for chains in itertools.product([row for row in rows if 0 < len(row) <= 4 - many], repeat=many):
                    for apart in rows:
                        expected = shows_by_standard(haps, list(chains), apart)
                        shown += expected
                        if expected or len(apart) == many:
                            self.assertIs(shows_fewest(haps, (list(chains), apart)), expected)
        self.assertGreater(shown, 20)

    def test_chains_in_any_turn(self):
        for haps in [MIXED, ROWS, TWELVE_APART]:
            chains, apart = fewest_chains(haps)
            for turned in [chains[::-1], chains[1:] + chains[:1]]:
                self.assertIs(shows_fewest(haps, (turned, apart)), True)

    def test_other_ones_as_few(self):
        haps = haps_at([(0, 0), (0, 9), (5, 3), (5, 6)])
        for thing, expected in [
            (([(0, 2), (1, 3)], (0, 1)), True), (([(0, 2), (1, 3)], (2, 3)), True), (([(1, 3), (0, 2)], (0, 3)), True),
            (([(1, 2), (0, 3)], (0, 1)), False), (([(0, 2), (1, 3)], (0, 2)), False), (([(0, 2), (1, 3)], (1, 0)), False),
            (([(0, 2), (1,), (3,)], (0, 1)), False), (([(0, 2), (1,), (3,)], (0, 1, 3)), False),
            (([(0, 2), (1, 3)], (0,)), False), (([(0, 2), (1, 3)], (0, 0)), False), (([(0, 2), (3,)], (0, 1)), False),
            (([(0, 2), (1, 3), (3,)], (0, 1)), False), (([(0, 2), (1, 3)], (1, 2)), True), (([(0, 2), (1, 3)], (1, 3)), False),
        ]:
            self.assertIs(shows_fewest(haps, thing), expected, thing)

    def test_bent_ones(self):
        for haps in [MIXED, GRID, TWELVE_APART, TWELVE_BEHIND, haps_at([(0, 0)])]:
            told = fewest_chains(haps)
            chains, apart = told
            bent = [
                list(told), (told,), told + (0,), (chains,), (apart, chains), (tuple(chains), apart), (chains, list(apart)),
                (chains, apart + (len(haps),)), (chains, apart[:-1]), (chains, apart + apart[-1:]), (chains[:-1], apart),
                (chains + [()], apart), (chains + [chains[0]], apart), (chains + [(0,)], apart), (chains, (-1,) + apart[1:]),
                (chains + [(len(haps),)], apart + (len(haps),)), ([list(chain) for chain in chains], apart), (chains, None),
                (None, apart), ({0: chains[0]}, apart), (chains, tuple(str(number) for number in apart)), (chains, ()),
                ([chains], apart), (chains[:-1] + [None], apart), (chains[:-1] + [chains[-1] + (None,)], apart),
                (chains[:-1] + [()], apart), (chains[:-1] + [([],)], apart), (chains, apart[:-1] + ([],)), ([], ()),
                (chains[:-1] + [chains[-1][::-1] * 2], apart), (chains, (None,) * len(apart)), (chains, (False,) + apart[1:]),
                ([tuple(bool(number) if number < 2 else number for number in chain) for chain in chains], apart),
            ]
            if len(apart) > 1:
                bent += [(chains, apart[::-1]), (chains, apart[:1] * len(apart))]
            self.check_told_of_anything(lambda thing: shows_fewest(haps, thing), bent, False)
            self.assertIs(shows_fewest(haps, told), True)

    def test_other_things(self):
        things = other_things() + no_chains(MIXED) + [
            ([()] * 5000, (0,) * 4000), ([(0,)] * 4999, tuple(range(4999))), ([nested("tuple", 57)], (0,)),
            ([], nested("tuple", 58)), (nested("list", 59), nested("tuple", 59)), ([(0,)], (0,) * 9990),
            ([(0,) * 9990], (0,)), ("01234567", "012"), ({}, {}), ((), ()), ([(0,)], (0,)),
        ]
        self.check_told_of_anything(lambda thing: shows_fewest(MIXED, thing), things, False)

    def test_no_haps(self):
        self.check_no_haps(fewest_chains)
        self.check_no_haps(shows_fewest, ([(0,)], (0,)))
        self.check_no_haps(shows_fewest, None)

    def test_quick_at_the_greatest_lists(self):
        program = """
import sys
sys.path.insert(0, {path!r})
from samples import chance_haps
from test_chains import GRID, LONG_LIST, ROWS, TWELVE_APART, TWELVE_BEHIND
from seatclocks.chains import *
for haps in [TWELVE_BEHIND, TWELVE_APART, ROWS, GRID, LONG_LIST, chance_haps(1, 12, 10 ** 40 - 1)]:
    for turned in [haps, list(reversed(haps)), haps[::2] + haps[1::2], haps[6:] + haps[:6]]:
        assert shows_fewest(turned, fewest_chains(turned))
        assert is_chain(turned, longest_chain(turned))
        assert max(steps_of(turned)) == len(longest_chain(turned))
        between(turned, 0, 11)
        reached(turned)
print("done")
""".format(path=__file__.rpartition("/")[0])
        self.assertEqual(ended_quick(program), "done\n")

    def test_refused_things_of_every_kind_stay_as_they_are(self):
        for thing in other_things():
            self.check_refused(NoHaps, shows_fewest, thing, thing)
            self.check_refused(NoHaps, longest_chain, thing)


if __name__ == "__main__":
    unittest.main()
