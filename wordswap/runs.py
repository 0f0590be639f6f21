"""Runs: hands do their deeds turn by turn, and what has become of the wares behind the last one."""

from wordswap.errors import SwapError
from wordswap.hands import Keeper
from wordswap.ledgers import LAY, Ledger, is_deed


def is_own(plan, h, deed):
    if not is_deed(plan, deed):
        return False
    doer = deed[1][0] if deed[0] == LAY else deed[1][1]
    return doer == h


# All are asked before any deed is taken, so that each sees the ledger as it
# stands when the turn begins.
def asked_deeds(ledger, hands):
    rows = []
    for h in range(ledger.plan.web.number):
        rows.extend([(h, deed) for deed in hands[h].deeds(ledger)])
    return rows


def take_where_let(ledger, deed):
    try:
        ledger.take(deed)
    except SwapError:
        # A free hand may try what it likes: the run goes on without it.
        pass


def do_turn(ledger, hands):
    for h, deed in asked_deeds(ledger, hands):
        if is_own(ledger.plan, h, deed):
            take_where_let(ledger, deed)


class Run:
    def __init__(self, plan, hands, free, turns):
        self.ledger = Ledger(plan, free)
        # A hand may change the dict while it is asked.
        kept = dict(hands)
        for ahead in range(turns):
            if ahead > 0:
                self.ledger.move()
            do_turn(self.ledger, kept)
        # Whoever reads the ledger may go on with it: the run is over here.
        self.open_boxes = tuple(self.ledger.opened())

    def opened(self):
        return list(self.open_boxes)

    def fallen(self):
        return [passing for passing in self.ledger.plan.web.passings if passing not in self.open_boxes]

    def outcome(self, h):
        web = self.ledger.plan.web
        own = [(h, taker) in self.open_boxes for taker in web.takers_of(h)]
        wished = [(giver, h) in self.open_boxes for giver in web.givers_of(h)]
        if all(own + wished):
            return "all"
        if any(own) and not all(wished):
            return "lost"
        if not any(own + wished):
            return "none"
        return "more"


def all_keep(plan):
    hands = {}
    for h in range(plan.web.number):
        hands[h] = Keeper(h)
    return Run(plan, hands, [], plan.last_turn())
