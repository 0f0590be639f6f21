"""The planner: leaders and limits with which nobody who keeps can lose."""

from wordswap.chains import least_chain
from wordswap.errors import NoLeader, NoPlan, NotJoined
from wordswap.plans import Plan, are_leaders


# Lists are lengthened in the order in which they came, by rising hands: so
# shorter ones come first, and of one length the least.
def least_leaders(web):
    lists = [[h] for h in range(web.number)]
    # It ends, since no ring is without a leader where all hands are leaders.
    while web.ring(lists[0]) is not None:
        shorter = lists.pop(0)
        lists.extend([shorter + [h] for h in range(shorter[-1] + 1, web.number)])
    return lists[0]


def span(web, leaders):
    return max(web.lay_turns(leaders))


def even_limits(web, limit):
    limits = {}
    for passing in web.passings:
        limits[passing] = limit
    return limits


def plan_for(web, leaders=None):
    if leaders is not None and not are_leaders(web, leaders):
        raise NoPlan(None)
    group = web.group()
    if group is not None:
        raise NotJoined(group)
    chosen = least_leaders(web) if leaders is None else leaders
    ring = web.ring(chosen)
    if ring is not None:
        raise NoLeader(ring)
    return Plan(web, chosen, even_limits(web, span(web, chosen)))


def done_by(web, leaders):
    lengths = []
    for leader in leaders:
        chains = [least_chain(web, h, leader) for h in range(web.number)]
        lengths.extend([len(chain) for chain in chains if chain is not None])
    return span(web, leaders) + max(lengths, default=0)
