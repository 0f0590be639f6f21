"""Plans: a web with its leaders, and a limit in time for each passing."""

from wordswap.errors import NoPlan
from wordswap.webs import is_hand, is_whole


def is_rising(numbers):
    return all([low < high for low, high in zip(numbers, numbers[1:])])


def are_leaders(web, leaders):
    if not isinstance(leaders, list) or leaders == []:
        return False
    return all([is_hand(web.number, h) for h in leaders]) and is_rising(leaders)


def is_limit(value):
    return is_whole(value) and value >= 0


class Plan:
    def __init__(self, web, leaders, limits):
        if not are_leaders(web, leaders):
            raise NoPlan(None)
        kept = {}
        for passing in web.passings:
            if not is_limit(limits.get(passing)):
                raise NoPlan(passing)
            kept[passing] = limits[passing]
        self.web = web
        self.leaders = list(leaders)
        self.limits = dict(kept)
        # Whoever reads the two values above may change what was read: the
        # program itself goes by these copies.
        self.kept_leaders = tuple(leaders)
        self.kept_limits = kept

    def limit(self, passing):
        return self.kept_limits[passing]

    def leads(self, h):
        return h in self.kept_leaders

    def last_turn(self):
        greatest = max(list(self.kept_limits.values()), default=0)
        return greatest + self.web.number + 1
