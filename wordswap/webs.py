"""Webs: hands, and the passings of wares that they wish for."""

from wordswap.errors import NoWeb

FEWEST_HANDS = 2
MOST_HANDS = 6


def is_whole(value):
    # Python counts True and False among the ints, the program does not.
    return isinstance(value, int) and not isinstance(value, bool)


def is_hand(number, value):
    return is_whole(value) and 0 <= value < number


def is_number_of_hands(value):
    return is_whole(value) and FEWEST_HANDS <= value <= MOST_HANDS


def is_passing(number, value):
    if not isinstance(value, tuple) or len(value) != 2:
        return False
    return is_hand(number, value[0]) and is_hand(number, value[1]) and value[0] != value[1]


def first_wrong_passing(number, passings):
    for at, passing in enumerate(passings):
        if not is_passing(number, passing) or passing in passings[:at]:
            return at
    return None


class Web:
    def __init__(self, number, passings):
        if not is_number_of_hands(number):
            raise NoWeb(None)
        wrong = first_wrong_passing(number, passings)
        if wrong is not None:
            raise NoWeb(wrong)
        self.number = number
        self.passings = sorted(passings)

    def givers_of(self, h):
        return [giver for giver, taker in self.passings if taker == h]

    def takers_of(self, h):
        return [taker for giver, taker in self.passings if giver == h]

    def reach(self, h, without=None):
        met = {h: True}
        unwalked = [h]
        while unwalked != []:
            walked = unwalked.pop()
            for taker in self.takers_of(walked):
                if taker != without and taker not in met:
                    met[taker] = True
                    unwalked.append(taker)
        return sorted(met)

    def group(self):
        for h in range(self.number):
            reached = self.reach(h)
            if len(reached) < self.number:
                return reached
        return None

    def ring(self, leaders):
        turns = self.known_lay_turns(leaders)
        unknown = [h for h in range(self.number) if h not in turns]
        if unknown == []:
            return None
        # A hand whose lay turn is not known has a giver whose is not either,
        # so going back from giver to giver must come round.
        walk = [unknown[0]]
        while walk.count(walk[0]) == 1:
            givers = [giver for giver in self.givers_of(walk[0]) if giver in unknown]
            walk.insert(0, givers[0])
        return walk[:walk.index(walk[0], 1)]

    def lay_turns(self, leaders):
        turns = self.known_lay_turns(leaders)
        if len(turns) < self.number:
            return None
        return [turns[h] for h in range(self.number)]

    # The hands left out are those on a ring without a leader, or behind one.
    def known_lay_turns(self, leaders):
        turns = {}
        for leader in leaders:
            turns[leader] = 1
        # Each round makes one more known, or else no later one does: so there
        # need be no more rounds than hands.
        for step in range(self.number):
            for h in range(self.number):
                givers = self.givers_of(h)
                if h not in turns and all([giver in turns for giver in givers]):
                    turns[h] = 1 + max([turns[giver] for giver in givers], default=0)
        return turns
