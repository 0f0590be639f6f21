"""Hands: those that keep to a plan, and those that do whatever they can."""

from wordswap.ledgers import LAY, SAY


class Hand:
    def deeds(self, ledger):
        return []


class Free(Hand):
    def __init__(self, does):
        # The list may be changed by whoever handed it in.
        self.does = list(does) if isinstance(does, list) else does

    def deeds(self, ledger):
        does = self.does
        if isinstance(does, list):
            return [deed for turn, deed in does if turn == ledger.turn()]
        return list(does(ledger))


# A keeper remembers nothing: each first turn of which the rules speak can be
# told from the turns that the ledger keeps. Deeds of the ledger's own turn
# are passed over, since a hand sees what stands when the turn begins.
class Keeper(Hand):
    def __init__(self, me):
        self.me = me

    def deeds(self, ledger):
        return self.lays(ledger) + self.says(ledger)

    def boxes_to_me(self, ledger):
        return [(giver, self.me) for giver in ledger.plan.web.givers_of(self.me)]

    def boxes_of_mine(self, ledger):
        return [(self.me, taker) for taker in ledger.plan.web.takers_of(self.me)]

    # The first turn in which all boxes to this hand were laid in turns ahead;
    # None where one is not laid yet.
    def ready_turn(self, ledger):
        turns = [ledger.lay_turn(box) for box in self.boxes_to_me(ledger)]
        if None in turns:
            return None
        return 1 + max(turns, default=0)

    def lays(self, ledger):
        turn = 1 if ledger.plan.leads(self.me) else self.ready_turn(ledger)
        if ledger.turn() != turn:
            return []
        return [(LAY, box) for box in self.boxes_of_mine(ledger)]

    def says(self, ledger):
        ready = self.ready_turn(ledger)
        if ready is None:
            return []
        deeds = []
        for leader in ledger.plan.kept_leaders:
            if leader == self.me:
                deeds.extend(self.says_own_word(ledger, ready))
            else:
                deeds.extend(self.says_word_on(ledger, leader, ready))
        return deeds

    def says_own_word(self, ledger, ready):
        word = (self.me,)
        boxes = self.boxes_to_me(ledger)
        if ledger.turn() != ready or any([ledger.is_late(box, word) for box in boxes]):
            return []
        return [(SAY, box, word) for box in boxes]

    def says_word_on(self, ledger, leader, ready):
        rows = self.rows_to_say_on(ledger, leader)
        if rows == [] or ledger.turn() != max(ready, 1 + min([turn for turn, chain in rows])):
            return []
        least = min([chain for turn, chain in rows], key=lambda chain: (len(chain), chain))
        word = (self.me,) + least
        return [(SAY, box, word) for box in self.boxes_to_me(ledger) if not ledger.is_late(box, word)]

    def rows_to_say_on(self, ledger, leader):
        rows = []
        for box in self.boxes_of_mine(ledger):
            for turn, chain in ledger.said(box):
                if turn < ledger.turn() and chain[-1] == leader and self.me not in chain:
                    rows.append((turn, chain))
        return rows
