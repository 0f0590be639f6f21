"""The judge: whether a plan is good, and else what is wrong with it."""

from wordswap.chains import least_chain
from wordswap.ledgers import LAY, SAY
from wordswap.planners import span


def judge(plan):
    group = plan.web.group()
    if group is not None:
        return ("group", group)
    ring = plan.web.ring(plan.kept_leaders)
    if ring is not None:
        return ("ring", ring)
    idle = idle_passings(plan)
    if idle != []:
        return ("idle", idle[0])
    paper = what_to_weigh(plan)
    for u, j, x, w in paper:
        if plan.limit((w, u)) < plan.limit((u, x)):
            return ("loses", u, deeds_against(plan, u, j, x))
    return ("good", paper)


def idle_passings(plan):
    least = span(plan.web, plan.kept_leaders)
    return [passing for passing in plan.web.passings if plan.limit(passing) < least]


# What j's word on the box (u, x) makes u say on the box (w, u) must not be
# late there: each row names two such boxes.
def what_to_weigh(plan):
    paper = []
    for u in range(plan.web.number):
        for j in plan.kept_leaders:
            for x in takers_with_word(plan.web, u, j):
                paper.extend([(u, j, x, w) for w in plan.web.givers_of(u)])
    return paper


def takers_with_word(web, u, j):
    return [x for x in web.takers_of(u) if least_chain(web, x, j, u) is not None]


# All others together lay what u waits for, have every word on (u, x) early,
# but for j's: that one comes in the last turn that is not late, so that u is
# late with it on a box of a lesser limit. No other box of u's gets j's word.
def deeds_against(plan, u, j, x):
    rows = [(1, (LAY, (giver, u))) for giver in plan.web.givers_of(u)]
    for leader in plan.kept_leaders:
        if leader == j:
            chain = least_chain(plan.web, x, j, u)
            rows.append((plan.limit((u, x)) + len(chain), (SAY, (u, x), chain)))
        else:
            rows.extend(early_word(plan, u, x, leader))
    return sorted(rows)


def early_word(plan, u, x, leader):
    laid = 1 if plan.leads(u) else 2
    chain = least_chain(plan.web, x, leader, u)
    if chain is not None:
        return [(laid + 1, (SAY, (u, x), chain))]
    # No way past u: so u must be brought to say the word first. The limits
    # leave time for it, being no less than the span, and (u, x)'s greater.
    chain = least_chain(plan.web, x, leader)
    rows = [(laid + 3, (SAY, (u, x), chain))]
    heard = chain[chain.index(u) + 1:]
    if heard != ():
        rows.append((laid + 1, (SAY, (u, heard[0]), heard)))
    return rows
