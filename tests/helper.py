"""Webs to try, and plain but slow answers to hold the program's against."""

from functools import cache
from itertools import combinations, permutations
from random import Random

from wordswap.errors import Laid, Late, NoDeed, NotLaid, SwapError, Unknown
from wordswap.ledgers import Ledger
from wordswap.plans import Plan
from wordswap.webs import Web


def all_passings(number):
    return [(giver, taker) for giver in range(number) for taker in range(number) if giver != taker]


def webs_of(number, step=1):
    """Every step-th web of that many hands, by the bits of its place."""
    passings = all_passings(number)
    return [
        Web(number, [passing for at, passing in enumerate(passings) if bits >> at & 1])
        for bits in range(0, 1 << len(passings), step)
    ]


@cache
def some_webs():
    return webs_of(2) + webs_of(3) + webs_of(4, 61) + webs_of(5, 20011) + webs_of(6, 49523143)


def all_leaders(number):
    return [list(leaders) for size in range(number + 1) for leaders in combinations(range(number), size)]


def some_webs_with_leaders():
    return [(web, leaders) for web in some_webs() for leaders in all_leaders(web.number)]


@cache
def walks(web):
    """All tuples of unlike hands, one at least, along passings."""
    hands = range(web.number)
    tuples = [walk for size in hands for walk in permutations(hands, size + 1)]
    return [walk for walk in tuples if all(step in web.passings for step in zip(walk, walk[1:]))]


@cache
def rings(web):
    """All rings, each as a walk from its least hand on."""
    return [walk for walk in walks(web) if walk[0] == min(walk) and (walk[-1], walk[0]) in web.passings]


def led(web, leaders):
    return all(set(ring) & set(leaders) for ring in rings(web))


def plain_span(web, leaders):
    """The most hands on a walk that no leader stands on but at its beginning: for rings that are all led."""
    return max(len(walk) for walk in walks(web) if not set(walk[1:]) & set(leaders))


def weighed(web, leaders):
    """All that point 25 tells of, but for the limits: sorted tuples (u, j, x, w)."""
    ends = {(walk[0], walk[-1], u) for walk in walks(web) for u in range(web.number) if u not in walk}
    return sorted((u, j, x, w) for u, x in web.passings for w in web.givers_of(u) for j in leaders
                  if (x, j, u) in ends)


def others(plan, h):
    return [other for other in range(plan.web.number) if other != h]


def by_length(chains):
    return sorted(chains, key=lambda chain: (len(chain), chain))


def even_plan(web, leaders, limit):
    return Plan(web, leaders, {passing: limit for passing in web.passings})


def moved_to(ledger, turn):
    while ledger.turn() < turn:
        ledger.move()
    return ledger


def ledger_with(plan, rows, turn, free=None):
    """A ledger in that turn, with the deeds of the rows (turn, deed) taken ahead."""
    ledger = Ledger(plan, free)
    for when, deed in rows:
        moved_to(ledger, when).take(deed)
    return moved_to(ledger, turn)


def told_by(ledger):
    """All that a ledger tells: two alike tell of nothing changed between."""
    web = ledger.plan.web
    return (ledger.turn(), ledger.laid(), ledger.opened(), [ledger.said(passing) for passing in web.passings],
            [ledger.can_say(h) for h in range(web.number)], list(ledger.free), list(ledger.plan.leaders),
            dict(ledger.plan.limits), [ledger.plan.limit(passing) for passing in web.passings],
            ledger.plan.last_turn())


def all_chains(plan):
    return by_length([walk for walk in walks(plan.web) if walk[-1] in plan.leaders])


def all_deeds(plan):
    chains = all_chains(plan)
    lays = [("lay", passing) for passing in plan.web.passings]
    return lays + [("say", passing, chain) for passing in plan.web.passings
                   for chain in chains if chain[0] == passing[1]]


def refusal_of(ledger, deed):
    """The class with which the deed is refused, or None where it is taken."""
    try:
        ledger.take(deed)
    except SwapError as refusal:
        assert refusal.at == deed
        return refusal.__class__
    return None


class PlainLedger:
    """Points 11 to 15 by the deeds taken alone, (turn, deed), looked through for each answer."""

    def __init__(self, plan, free):
        self.plan, self.free, self.now, self.taken = plan, free, 1, []

    def can_be_said(self, chain):
        rest = list(chain[1:])
        while rest and rest[0] in self.free:
            rest.pop(0)
        return not rest or any(deed[0] == "say" and deed[2] == tuple(rest) and turn < self.now
                               for turn, deed in self.taken)

    def refusal(self, deed):
        if deed not in all_deeds(self.plan):
            return NoDeed
        lays = [turn for turn, other in self.taken if other == ("lay", deed[1])]
        if deed[0] == "lay":
            return Laid if lays else None
        if not [turn for turn in lays if turn < self.now]:
            return NotLaid
        if self.now > self.plan.limits[deed[1]] + len(deed[2]):
            return Late
        return None if self.can_be_said(deed[2]) else Unknown

    def take(self, deed):
        refusal = self.refusal(deed)
        if refusal is None:
            self.taken.append((self.now, deed))
        return refusal

    def told(self):
        passings = self.plan.web.passings
        said = [[(turn, deed[2]) for turn, deed in self.taken if deed[0] == "say" and deed[1] == passing]
                for passing in passings]
        laid = [passing for passing in passings if ("lay", passing) in [deed for turn, deed in self.taken]]
        opened = [passing for passing, rows in zip(passings, said)
                  if {chain[-1] for turn, chain in rows} == set(self.plan.leaders)]
        can_say = [[chain for chain in all_chains(self.plan) if chain[0] == h and self.can_be_said(chain)]
                   for h in range(self.plan.web.number)]
        return (self.now, laid, opened, said, can_say)


class PlainKeeper:
    """Points 17 to 19 with a memory of what was done, for one asked once in each turn as it begins."""

    def __init__(self, me):
        self.me, self.has_laid, self.looked, self.words = me, False, False, []

    def deeds(self, ledger):
        plan, me = ledger.plan, self.me
        to_me = [passing for passing in plan.web.passings if passing[1] == me]
        mine = [passing for passing in plan.web.passings if passing[0] == me]
        ready = all(passing in ledger.laid() for passing in to_me)
        deeds = []
        if not self.has_laid and (me in plan.leaders or ready):
            self.has_laid = True
            deeds += [("lay", passing) for passing in mine]
        if not ready or not to_me:
            return deeds
        for leader in plan.leaders:
            if leader == me and not self.looked:
                self.looked = True
                if all(ledger.turn() <= plan.limits[passing] + 1 for passing in to_me):
                    deeds += [("say", passing, (me,)) for passing in to_me]
            chains = by_length([chain for passing in mine for turn, chain in ledger.said(passing)
                                if chain[-1] == leader and me not in chain])
            if leader != me and chains and leader not in self.words:
                self.words.append(leader)
                deeds += [("say", passing, (me, *chains[0])) for passing in to_me
                          if ledger.turn() <= plan.limits[passing] + 1 + len(chains[0])]
        return deeds


class Whim:
    """A free hand that does some of what it can, by lot, and the same in each run of one seed."""

    def __init__(self, me, seed):
        self.me, self.lot = me, Random(f"{me} {seed}")
        self.zeal = self.lot.choice([0.1, 0.3, 0.9])

    def deeds(self, ledger):
        web = ledger.plan.web
        deeds = [("lay", (self.me, taker)) for taker in web.takers_of(self.me)]
        deeds += [("say", (giver, self.me), chain) for giver in web.givers_of(self.me)
                  for chain in ledger.can_say(self.me)]
        return [deed for deed in deeds if self.lot.random() < self.zeal]


def play(ledger, hands, turns):
    """Has the hands, a dict, do their deeds; tells those refused, as tuples (hand, deed)."""
    refused = []
    for turn in range(1, turns + 1):
        asked = [(h, deed) for h in sorted(hands) for deed in hands[h].deeds(moved_to(ledger, turn))]
        refused += [(h, deed) for h, deed in asked if refusal_of(ledger, deed) is not None]
    return refused


def has_lost(ledger, h):
    opened = ledger.opened()
    shut = [passing for passing in ledger.plan.web.passings if passing not in opened]
    return h in [giver for giver, taker in opened] and h in [taker for giver, taker in shut]


@cache
def span_plans():
    """Plans of joined webs whose rings all have a leader, each limit the greatest lay turn."""
    plans = []
    for web, leaders in some_webs_with_leaders():
        if leaders and web.group() is None and web.ring(leaders) is None:
            plans.append(even_plan(web, leaders, max(web.lay_turns(leaders))))
    return plans


@cache
def some_plans():
    """Plans of webs of all sorts, joined or not, with limits of all sorts."""
    lot = Random("limits")
    plans = []
    for web, leaders in some_webs_with_leaders()[::5]:
        if leaders:
            most = lot.choice([1, 4, 9])
            plans.append(Plan(web, leaders, {passing: lot.randint(0, most) for passing in web.passings}))
    return plans


@cache
def uneven_plans():
    """Plans of joined webs whose rings all have a leader, no limit less than the span, and more by lot.

    In every second one limits are raised until no limit of (w, u) is less than that of (u, x).
    """
    lot = Random("uneven")
    plans = []
    for place, even in enumerate(span_plans()[::3]):
        limits = {passing: limit + lot.choice([0, 0, 0, 1, 2, 6]) for passing, limit in even.limits.items()}
        rows = weighed(even.web, even.leaders) if place % 2 else []
        while any(limits[w, u] < limits[u, x] for u, j, x, w in rows):
            for u, j, x, w in rows:
                limits[w, u] = max(limits[w, u], limits[u, x])
        plans.append(Plan(even.web, even.leaders, limits))
    return plans


def some_free(plan, seed):
    lot = Random(f"free {seed}")
    return [h for h in range(plan.web.number) if lot.random() < 0.5]
