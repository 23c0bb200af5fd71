"""Chains: which haps can reach which, and chains of haps that reach one another."""

from seatclocks.fractions import less, plus, rising
from seatclocks.haps import check_haps, check_numbers, is_number
from seatclocks.orders import kind_of, pairs_of

MOST_HAPS = 12


def reached_from(haps):
    """Give for each hap the rising list of the numbers of those that it can reach."""
    return [[at for at, other in enumerate(haps) if kind_of(hap, other) == "later"] for hap in haps]


def reached(haps):
    """Give for each hap the rising list of the numbers of those that it can reach."""
    check_haps(haps, MOST_HAPS)
    return reached_from(haps)


def between(haps, i, j):
    """Give the rising list of the numbers of those that hap i can reach and that can reach hap j."""
    check_haps(haps, MOST_HAPS)
    check_numbers(haps, i, j)
    ahead = reached_from(haps)
    return [at for at in ahead[i] if j in ahead[at]]


def are_numbers(ahead, thing):
    """Tell of anything whether it is a tuple of one or more numbers of the haps."""
    return isinstance(thing, tuple) and len(thing) > 0 and all([is_number(ahead, number) for number in thing])


def is_chain_by(ahead, thing):
    """Tell of anything whether it is a chain, by what each hap can reach."""
    return are_numbers(ahead, thing) and all([to in ahead[at] for at, to in zip(thing, thing[1:])])


def is_chain(haps, thing):
    """Tell of anything whether it is a chain of the haps."""
    check_haps(haps, MOST_HAPS)
    return is_chain_by(reached_from(haps), thing)


def longest(chains):
    """Give the longest of some chains, the least of those as tuples compare."""
    return min(chains, key=lambda chain: (-len(chain), chain))


def longest_chain(haps):
    """Give the longest chain, the least of those as tuples compare."""
    check_haps(haps, MOST_HAPS)
    ahead = reached_from(haps)
    chains = [()] * len(haps)
    # After so many rounds these are the best chains from each hap with at most so many numbers.
    for _ in haps:
        chains = [(at,) + longest([()] + [chains[to] for to in others]) for at, others in enumerate(ahead)]
    return longest(chains)


def steps_of(haps):
    """Give for each hap how many numbers the longest chain has that ends with it."""
    check_haps(haps, MOST_HAPS)
    ahead = reached_from(haps)
    steps = [0] * len(haps)
    # After so many rounds these are the steps where chains have at most so many numbers.
    for _ in haps:
        steps = [1 + max([0] + [step for step, others in zip(steps, ahead) if to in others]) for to in range(len(haps))]
    return steps


def along_flashes(haps):
    """Give the numbers of the haps by time and place together, those alike there by time less place."""
    both = [plus(time, place) for time, place in haps]
    rests = [less(time, place) for time, place in haps]
    both_rising = rising(both)
    rests_rising = rising(rests)
    return sorted(range(len(haps)), key=lambda at: (both_rising.index(both[at]), rests_rising.index(rests[at])))


def first_to_reach(chains, ahead, at):
    """Give the place of the first chain whose last hap can reach hap at, or how many chains there are."""
    for spot, chain in enumerate(chains):
        if at in ahead[chain[-1]]:
            return spot
    return len(chains)


def followed(links, at):
    """Give a number, the one to which it is linked, the one to which that is linked, and so on."""
    found = [at]
    while found[-1] in links:
        found.append(links[found[-1]])
    return found


def fewest_chains(haps):
    """Give some chains that hold all, as few as can be, and as many haps that are apart."""
    check_haps(haps, MOST_HAPS)
    ahead = reached_from(haps)
    chains = []
    apart_from = {}
    # In this turn no hap has less time and place together than one ahead of it. So what the last hap of a
    # chain cannot reach has more time and place together than that, and less time less place: linked so,
    # from the last chain to the first one, one hap of each chain are all apart.
    for at in along_flashes(haps):
        spot = first_to_reach(chains, ahead, at)
        if spot == len(chains):
            chains.append([])
        if spot > 0:
            apart_from[at] = chains[spot - 1][-1]
        chains[spot].append(at)
    apart = followed(apart_from, chains[-1][-1])
    return ([tuple(chain) for chain in chains], tuple(sorted(apart)))


def hold_all(ahead, thing):
    """Tell of anything whether it is a list of chains that hold all haps."""
    if not isinstance(thing, list) or not all([is_chain_by(ahead, chain) for chain in thing]):
        return False
    return sorted([number for chain in thing for number in chain]) == list(range(len(ahead)))


def are_apart(ahead, thing):
    """Tell of anything whether it is a rising tuple of numbers of haps of which none can reach another one."""
    if not are_numbers(ahead, thing) or not all([one < other for one, other in zip(thing, thing[1:])]):
        return False
    return not any([one in ahead[other] or other in ahead[one] for one, other in pairs_of(thing)])


def shows_fewest(haps, thing):
    """Tell of anything whether it is a tuple of chains that hold all and as many haps that are apart."""
    check_haps(haps, MOST_HAPS)
    if not isinstance(thing, tuple) or len(thing) != 2:
        return False
    chains, apart = thing
    ahead = reached_from(haps)
    return hold_all(ahead, chains) and are_apart(ahead, apart) and len(chains) == len(apart)
