"""The ledger: which boxes are laid and what was said on them, turn by turn."""

from wordswap.chains import chains_from, is_chain
from wordswap.errors import Laid, Late, NoDeed, NotLaid, Unknown
from wordswap.webs import is_hand, is_passing

LAY = "lay"
SAY = "say"


def is_box(web, value):
    # Of (False, 1) and (0, 1) Python says that they are equal: so it is not
    # enough to look among the web's passings.
    return is_passing(web.number, value) and value in web.passings


def is_chain_of(plan, value):
    if not isinstance(value, tuple) or not all([is_hand(plan.web.number, h) for h in value]):
        return False
    return is_chain(plan.web, plan.kept_leaders, value)


def is_deed(plan, value):
    if not isinstance(value, tuple) or len(value) < 2 or not is_box(plan.web, value[1]):
        return False
    if len(value) == 2:
        return value[0] == LAY
    if len(value) != 3 or value[0] != SAY:
        return False
    return is_chain_of(plan, value[2]) and value[2][0] == value[1][1]


class Ledger:
    def __init__(self, plan, free=None):
        self.plan = plan
        self.free = [] if free is None else list(free)
        # The list above may be changed by whoever reads it.
        self.kept_free = tuple(self.free)
        self.now = 1
        self.turns_of_lays = {}
        self.sayings = {}
        # Of each chain the turn in which it was said first, on whatever box.
        self.first_turns = {}

    def turn(self):
        return self.now

    def move(self):
        self.now = self.now + 1

    def take(self, deed):
        if not is_deed(self.plan, deed):
            raise NoDeed(deed)
        if deed[0] == LAY:
            self.take_lay(deed)
        else:
            self.take_say(deed)

    def take_lay(self, deed):
        if deed[1] in self.turns_of_lays:
            raise Laid(deed)
        self.turns_of_lays[deed[1]] = self.now

    def take_say(self, deed):
        passing = deed[1]
        chain = deed[2]
        if not self.is_laid_ahead(passing):
            raise NotLaid(deed)
        if self.is_late(passing, chain):
            raise Late(deed)
        if not self.is_sayable(chain):
            raise Unknown(deed)
        self.sayings.setdefault(passing, []).append((self.now, chain))
        self.first_turns.setdefault(chain, self.now)

    def lay_turn(self, passing):
        return self.turns_of_lays.get(passing)

    def is_laid_ahead(self, passing):
        return passing in self.turns_of_lays and self.turns_of_lays[passing] < self.now

    def is_late(self, passing, chain):
        return self.now > self.plan.limit(passing) + len(chain)

    def is_sayable(self, chain):
        left = chain[1:]
        while left != () and left[0] in self.kept_free:
            left = left[1:]
        return left == () or self.is_said_ahead(left)

    # It was said by its first hand: on a box only its taker's chains are taken.
    def is_said_ahead(self, chain):
        return chain in self.first_turns and self.first_turns[chain] < self.now

    def has_all_words(self, passing):
        words = [chain[-1] for turn, chain in self.said(passing)]
        return all([leader in words for leader in self.plan.kept_leaders])

    def laid(self):
        return sorted(self.turns_of_lays)

    def opened(self):
        return [passing for passing in self.laid() if self.has_all_words(passing)]

    def said(self, passing):
        return list(self.sayings.get(passing, []))

    def can_say(self, h):
        chains = chains_from(self.plan.web, self.plan.kept_leaders, h)
        return [chain for chain in chains if self.is_sayable(chain)]
