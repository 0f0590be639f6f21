"""Webs to try, and plain but slow answers to hold the program's against."""

from functools import cache
from itertools import combinations, permutations

from wordswap.webs import Web


def all_passings(number):
    return [(giver, taker) for giver in range(number) for taker in range(number) if giver != taker]


def webs_of(number, step=1):
    """Every step-th web of that many hands, by the bits of its place."""
    passings = all_passings(number)
    return [
        Web(number, [passing for at, passing in enumerate(passings) if bits >> at & 1])
        for bits in range(0, 1 << len(passings), step)
    ]


@cache
def some_webs():
    return webs_of(2) + webs_of(3) + webs_of(4, 61) + webs_of(5, 20011) + webs_of(6, 49523143)


def all_leaders(number):
    return [list(leaders) for size in range(number + 1) for leaders in combinations(range(number), size)]


def some_webs_with_leaders():
    return [(web, leaders) for web in some_webs() for leaders in all_leaders(web.number)]


@cache
def walks(web):
    """All tuples of unlike hands, one at least, along passings."""
    hands = range(web.number)
    tuples = [walk for size in hands for walk in permutations(hands, size + 1)]
    return [walk for walk in tuples if all(step in web.passings for step in zip(walk, walk[1:]))]


def by_length(chains):
    return sorted(chains, key=lambda chain: (len(chain), chain))
