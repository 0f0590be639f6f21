"""Chains: a leader's word, said on by names, the one who says it now first."""

from wordswap.webs import is_hand


def is_chain(web, leaders, chain):
    if chain == () or chain[-1] not in leaders:
        return False
    if len(set(chain)) < len(chain) or not all([is_hand(web.number, h) for h in chain]):
        return False
    return all([step in web.passings for step in zip(chain, chain[1:])])


def longer_walks(web, walk):
    return [walk + (taker,) for taker in web.takers_of(walk[-1]) if taker not in walk]


# Walks are lengthened in the order in which they came, by rising hands: so
# they come sorted by length, then as tuples, here and in chains_from.
def least_chain(web, x, j, without=None):
    met = {x: True}
    walks = [(x,)]
    while walks != []:
        walk = walks.pop(0)
        if walk[-1] == j:
            return walk
        for longer in longer_walks(web, walk):
            # The first walk to a hand is the least one to it, and no later
            # one could be part of a least chain.
            if longer[-1] != without and longer[-1] not in met:
                met[longer[-1]] = True
                walks.append(longer)
    return None


def chains_from(web, leaders, x):
    chains = []
    walks = [(x,)]
    while walks != []:
        walk = walks.pop(0)
        if walk[-1] in leaders:
            chains.append(walk)
        walks.extend(longer_walks(web, walk))
    return chains
