"""Point 3, as far as plans, the ledger and hands go."""

import unittest
from itertools import product
from random import Random

from helper import Whim, even_plan, has_lost, moved_to, play, refusal_of, some_free, some_plans, span_plans
from wordswap.hands import Free, Keeper
from wordswap.ledgers import Ledger
from wordswap.plans import Plan
from wordswap.webs import Web


class Schemer:
    """A free hand that wants one keeper's wares: by lot it lays late, says late, and leaves the rest out."""

    def __init__(self, me, victim, plan, seed):
        self.me, self.victim, self.lot = me, victim, Random(f"{me} {victim} {seed}")
        self.lay_turn = self.lot.choice([1, 1, 2, self.lot.randint(1, plan.last_turn())])
        self.lag = self.lot.choice([0, 0, 1, 2])
        self.zeal = self.lot.choice([0, 0, 0.05, 0.5])

    def deeds(self, ledger):
        web, turn = ledger.plan.web, ledger.turn()
        deeds = [("lay", (self.me, taker)) for taker in web.takers_of(self.me) if turn == self.lay_turn]
        for giver, chain in product(web.givers_of(self.me), ledger.can_say(self.me)):
            in_time = ledger.plan.limit((giver, self.me)) + len(chain) - turn
            wanted = giver == self.victim and 0 <= in_time <= self.lag
            if wanted or self.lot.random() < self.zeal:
                deeds.append(("say", (giver, self.me), chain))
        return deeds


class Wares(unittest.TestCase):
    def test_none_is_made_or_lost(self):
        opened_at_all = 0
        for seed, plan in enumerate(some_plans()[1::5]):
            free = some_free(plan, seed)
            ledger = Ledger(plan, free)
            hands = {h: Whim(h, seed) if h in free else Keeper(h) for h in range(plan.web.number)}
            laid, opened = [], []
            for turn in range(1, 9):
                for deed in [deed for h in sorted(hands) for deed in hands[h].deeds(moved_to(ledger, turn))]:
                    if refusal_of(ledger, deed) is None and deed[0] == "lay":
                        laid.append(deed[1])
                    self.assertEqual(ledger.laid(), sorted(laid))
                    self.assertLessEqual(set(opened), set(ledger.opened()))
                    opened = ledger.opened()
                    self.assertEqual(len(set(opened)), len(opened))
                    self.assertLessEqual(set(opened), set(laid))
            self.assertLessEqual(set(laid), set(plan.web.passings))
            opened_at_all += len(opened)
        self.assertGreater(opened_at_all, 50)


class Names(unittest.TestCase):
    def test_a_keepers_name_stands_only_where_it_said_the_rest(self):
        looked_at = 0
        for seed, plan in enumerate(some_plans()[2::4] + span_plans()[4::9]):
            free = some_free(plan, seed)
            ledger = Ledger(plan, free)
            hands = {h: Whim(h, seed) if h in free else Keeper(h) for h in range(plan.web.number)}
            play(ledger, hands, min(plan.last_turn(), 10))
            said = [row for passing in plan.web.passings for row in ledger.said(passing)]
            first = {}
            for turn, chain in said:
                first[chain] = min(turn, first.get(chain, turn))
            for turn, chain in said:
                for at in range(1, len(chain)):
                    if chain[at] not in free:
                        looked_at += 1
                        self.assertLess(first.get(chain[at:], turn), turn)
        self.assertGreater(looked_at, 500)


class Keeping(unittest.TestCase):
    def test_nobody_loses_to_all_others_together(self):
        gone = 0
        for seed, plan in enumerate(span_plans()[::5]):
            for me in range(plan.web.number):
                others = [h for h in range(plan.web.number) if h != me]
                ledger = Ledger(plan, others)
                hands = {h: Schemer(h, me, plan, seed) for h in others}
                refused = play(ledger, {**hands, me: Keeper(me)}, plan.last_turn())
                self.assertNotIn(me, [h for h, deed in refused])
                self.assertFalse(has_lost(ledger, me))
                gone += me in [giver for giver, taker in ledger.opened()]
        self.assertGreater(gone, 100)

    def test_nobody_of_several_loses(self):
        for seed, plan in enumerate(span_plans()[1::3]):
            free = some_free(plan, seed)
            keepers = [h for h in range(plan.web.number) if h not in free]
            ledger = Ledger(plan, free)
            hands = {h: Keeper(h) for h in keepers}
            hands.update({h: Schemer(h, Random(seed).choice(keepers or [0]), plan, seed) for h in free})
            play(ledger, hands, plan.last_turn())
            self.assertEqual([h for h in keepers if has_lost(ledger, h)], [])

    def test_two_hands_whatever_the_other_one_does(self):
        web = Web(2, [(0, 1), (1, 0)])
        ends = set()
        for leaders, me in product([[0], [1], [0, 1]], [0, 1]):
            plan = even_plan(web, leaders, max(web.lay_turns(leaders)))
            other = 1 - me
            words = [leader for leader in leaders]
            chains = [(other,) if leader == other else (other, leader) for leader in words]
            options = [("lay", (other, me))] + [("say", (me, other), chain) for chain in chains]
            # Each deed in one turn or never: said again it changes nothing.
            for turns in product(range(plan.last_turn() + 1), repeat=len(options)):
                ledger = Ledger(plan, [other])
                hands = {me: Keeper(me), other: Free(list(zip(turns, options)))}
                play(ledger, hands, plan.last_turn())
                self.assertFalse(has_lost(ledger, me))
                ends.add(tuple(ledger.opened()))
        self.assertIn(((0, 1), (1, 0)), ends)

    def test_with_other_limits_one_may_lose(self):
        # So that the tests above would show a loss: here 0's ware is taken in
        # a turn in which 0 can no more say the word on.
        plan = Plan(Web(2, [(0, 1), (1, 0)]), [1], {(0, 1): 5, (1, 0): 3})
        ledger = Ledger(plan, [1])
        rows = [(1, ("lay", (1, 0))), (6, ("say", (0, 1), (1,)))]
        self.assertEqual(play(ledger, {0: Keeper(0), 1: Free(rows)}, plan.last_turn()), [])
        self.assertEqual(ledger.opened(), [(0, 1)])
        self.assertTrue(has_lost(ledger, 0))
        self.assertFalse(has_lost(ledger, 1))


if __name__ == "__main__":
    unittest.main()
