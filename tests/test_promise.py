"""Point 3, the promise."""

import unittest
from itertools import product
from random import Random

from helper import (Whim, all_leaders, even_plan, has_lost, moved_to, others, play, refusal_of, some_free, some_plans,
                    span_plans, uneven_plans)
from wordswap.chains import chains_from
from wordswap.hands import Free, Keeper
from wordswap.judges import judge
from wordswap.ledgers import Ledger
from wordswap.planners import done_by, plan_for
from wordswap.plans import Plan
from wordswap.runs import Run, all_keep
from wordswap.webs import Web

PAIR = Web(2, [(0, 1), (1, 0)])
TRIANGLE = Web(3, [(0, 1), (1, 2), (2, 0)])
BY_ONE = Web(3, [(0, 1), (1, 0), (1, 2), (2, 1)])


class Schemer:
    """A free hand that wants one keeper's wares: by lot it lays late, says late, and leaves the rest out."""

    def __init__(self, me, victim, plan, seed):
        self.me, self.victim, self.lot = me, victim, Random(f"{me} {victim} {seed}")
        self.lay_turn = self.lot.choice([1, 1, 2, self.lot.randint(1, plan.last_turn())])
        self.lag = self.lot.choice([0, 0, 1, 2])
        self.zeal = self.lot.choice([0, 0, 0.05, 0.5])

    def deeds(self, ledger):
        web, turn = ledger.plan.web, ledger.turn()
        deeds = [("lay", (self.me, taker)) for taker in web.takers_of(self.me) if turn == self.lay_turn]
        for giver, chain in product(web.givers_of(self.me), ledger.can_say(self.me)):
            in_time = ledger.plan.limit((giver, self.me)) + len(chain) - turn
            wanted = giver == self.victim and 0 <= in_time <= self.lag
            if wanted or self.lot.random() < self.zeal:
                deeds.append(("say", (giver, self.me), chain))
        return deeds


class Wares(unittest.TestCase):
    def test_none_is_made_or_lost(self):
        opened_at_all = 0
        for seed, plan in enumerate(some_plans()[1::5]):
            free = some_free(plan, seed)
            ledger = Ledger(plan, free)
            hands = {h: Whim(h, seed) if h in free else Keeper(h) for h in range(plan.web.number)}
            laid, opened = [], []
            for turn in range(1, 9):
                for deed in [deed for h in sorted(hands) for deed in hands[h].deeds(moved_to(ledger, turn))]:
                    if refusal_of(ledger, deed) is None and deed[0] == "lay":
                        laid.append(deed[1])
                    self.assertEqual(ledger.laid(), sorted(laid))
                    self.assertLessEqual(set(opened), set(ledger.opened()))
                    opened = ledger.opened()
                    self.assertEqual(len(set(opened)), len(opened))
                    self.assertLessEqual(set(opened), set(laid))
            self.assertLessEqual(set(laid), set(plan.web.passings))
            opened_at_all += len(opened)
        self.assertGreater(opened_at_all, 50)


class Names(unittest.TestCase):
    def test_a_keepers_name_stands_only_where_it_said_the_rest(self):
        looked_at = 0
        for seed, plan in enumerate(some_plans()[2::4] + span_plans()[4::9]):
            free = some_free(plan, seed)
            ledger = Ledger(plan, free)
            hands = {h: Whim(h, seed) if h in free else Keeper(h) for h in range(plan.web.number)}
            play(ledger, hands, min(plan.last_turn(), 10))
            said = [row for passing in plan.web.passings for row in ledger.said(passing)]
            first = {}
            for turn, chain in said:
                first[chain] = min(turn, first.get(chain, turn))
            for turn, chain in said:
                for at in range(1, len(chain)):
                    if chain[at] not in free:
                        looked_at += 1
                        self.assertLess(first.get(chain[at:], turn), turn)
        self.assertGreater(looked_at, 500)


class Keeping(unittest.TestCase):
    def test_nobody_loses_to_all_others_together(self):
        gone = 0
        for seed, plan in enumerate(span_plans()[::5]):
            for me in range(plan.web.number):
                others = [h for h in range(plan.web.number) if h != me]
                ledger = Ledger(plan, others)
                hands = {h: Schemer(h, me, plan, seed) for h in others}
                refused = play(ledger, {**hands, me: Keeper(me)}, plan.last_turn())
                self.assertNotIn(me, [h for h, deed in refused])
                self.assertFalse(has_lost(ledger, me))
                gone += me in [giver for giver, taker in ledger.opened()]
        self.assertGreater(gone, 100)

    def test_nobody_of_several_loses(self):
        for seed, plan in enumerate(span_plans()[1::3]):
            free = some_free(plan, seed)
            keepers = [h for h in range(plan.web.number) if h not in free]
            ledger = Ledger(plan, free)
            hands = {h: Keeper(h) for h in keepers}
            hands.update({h: Schemer(h, Random(seed).choice(keepers or [0]), plan, seed) for h in free})
            play(ledger, hands, plan.last_turn())
            self.assertEqual([h for h in keepers if has_lost(ledger, h)], [])

    def test_two_hands_whatever_the_other_one_does(self):
        web = Web(2, [(0, 1), (1, 0)])
        ends = set()
        for leaders, me in product([[0], [1], [0, 1]], [0, 1]):
            plan = even_plan(web, leaders, max(web.lay_turns(leaders)))
            other = 1 - me
            words = [leader for leader in leaders]
            chains = [(other,) if leader == other else (other, leader) for leader in words]
            options = [("lay", (other, me))] + [("say", (me, other), chain) for chain in chains]
            # Each deed in one turn or never: said again it changes nothing.
            for turns in product(range(plan.last_turn() + 1), repeat=len(options)):
                ledger = Ledger(plan, [other])
                hands = {me: Keeper(me), other: Free(list(zip(turns, options)))}
                play(ledger, hands, plan.last_turn())
                self.assertFalse(has_lost(ledger, me))
                ends.add(tuple(ledger.opened()))
        self.assertIn(((0, 1), (1, 0)), ends)

    def test_with_other_limits_one_may_lose(self):
        # So that the tests above would show a loss: here 0's ware is taken in
        # a turn in which 0 can no more say the word on.
        plan = Plan(Web(2, [(0, 1), (1, 0)]), [1], {(0, 1): 5, (1, 0): 3})
        ledger = Ledger(plan, [1])
        rows = [(1, ("lay", (1, 0))), (6, ("say", (0, 1), (1,)))]
        self.assertEqual(play(ledger, {0: Keeper(0), 1: Free(rows)}, plan.last_turn()), [])
        self.assertEqual(ledger.opened(), [(0, 1)])
        self.assertTrue(has_lost(ledger, 0))
        self.assertFalse(has_lost(ledger, 1))


def all_limits(web, leaders, limits):
    """A plan for each choice among those limits, passing by passing."""
    return [Plan(web, leaders, dict(zip(web.passings, chosen)))
            for chosen in product(limits, repeat=len(web.passings))]


def can_lose(plan, u, lay_turns):
    """Whether u, alone a keeper, loses by any choice of what touches it.

    That is lays of boxes to it, and what others say on its own boxes, each in one turn or never: on other boxes
    nothing is said that u looks at, or that free hands need to have said.
    """
    web, free = plan.web, others(plan, u)
    lays = [("lay", (w, u)) for w in web.givers_of(u)]
    says = [("say", (u, x), chain) for x in web.takers_of(u) for chain in chains_from(web, plan.leaders, x)]
    for turns in product(*[lay_turns] * len(lays), *[range(plan.last_turn() + 1)] * len(says)):
        rows = list(zip(turns, lays + says))
        run = Run(plan, {**{h: Free(rows) for h in free}, u: Keeper(u)}, free, plan.last_turn())
        if run.outcome(u) == "lost":
            return True
    return False


class Exact(unittest.TestCase):
    """The judge says "good" just where all is open if all keep, and nobody who keeps can lose."""

    def assert_exact(self, plans, lay_turns):
        words = set()
        for plan in plans:
            word = judge(plan)[0]
            losers = [u for u in range(plan.web.number) if can_lose(plan, u, lay_turns)]
            shut = all_keep(plan).fallen()
            with self.subTest(leaders=plan.leaders, limits=plan.limits):
                self.assertEqual(word == "good", losers == [] and shut == [])
                self.assertEqual(word == "idle", shut != [])
            words.add(word)
        return words

    def test_two_hands_one_leader(self):
        for leader in [0, 1]:
            plans = all_limits(PAIR, [leader], range(5))
            self.assertEqual(self.assert_exact(plans, range(8)), {"idle", "loses", "good"})

    def test_two_hands_two_leaders(self):
        plans = all_limits(PAIR, [0, 1], range(3))
        self.assertEqual(self.assert_exact(plans, range(5)), {"idle", "loses", "good"})

    def test_a_ring_of_three(self):
        for leaders, limits in [([0], [2, 3, 4, 5]), ([1, 2], [1, 2, 3]), ([0, 1, 2], [1, 2])]:
            words = self.assert_exact(all_limits(TRIANGLE, leaders, limits), [0, 1, 2])
            self.assertEqual(words | {"idle"}, {"idle", "loses", "good"})

    def test_one_between_two_others(self):
        plans = [even_plan(BY_ONE, [0, 2], 2), Plan(BY_ONE, [0, 2], {(0, 1): 3, (1, 0): 2, (1, 2): 2, (2, 1): 2}),
                 Plan(BY_ONE, [0, 2], {(0, 1): 2, (1, 0): 3, (1, 2): 2, (2, 1): 2})]
        self.assertEqual([judge(plan)[0] for plan in plans], ["good", "loses", "loses"])
        self.assert_exact(plans, [1])
        self.assertEqual(self.assert_exact(all_limits(BY_ONE, [1], [2, 3]), [0, 1]), {"loses", "good"})


class Letting(unittest.TestCase):
    """Plans that the judge lets by, and runs of them with free hands that do what they can."""

    @classmethod
    def setUpClass(cls):
        plans = uneven_plans() + span_plans()[::10]
        cls.good = [plan for plan in plans if judge(plan)[0] == "good"]
        cls.bad = [plan for plan in plans if judge(plan)[0] == "loses"]

    def keepers_lost(self, plan, free, victim, seed):
        hands = {h: Schemer(h, victim, plan, seed) if h in free else Keeper(h) for h in range(plan.web.number)}
        run = Run(plan, hands, free, plan.last_turn())
        # Each ware is its taker's or its giver's, once.
        self.assertEqual(sorted(run.opened() + run.fallen()), plan.web.passings)
        self.assertLessEqual(set(run.opened()), set(run.ledger.laid()))
        return [h for h in range(plan.web.number) if h not in free and run.outcome(h) == "lost"]

    def test_no_keeper_loses_whoever_is_free(self):
        runs = 0
        for seed, plan in enumerate(self.good[::5]):
            for free in all_leaders(plan.web.number):
                keepers = [h for h in range(plan.web.number) if h not in free]
                victim = Random(f"{seed} {free}").choice(keepers or [0])
                self.assertEqual(self.keepers_lost(plan, free, victim, seed), [])
                runs += 1
        self.assertGreater(runs, 500)

    def test_all_others_together_again_and_again(self):
        for plan in self.good[1::4]:
            for me, seed in product(range(plan.web.number), range(5)):
                self.assertEqual(self.keepers_lost(plan, others(plan, me), me, seed), [])

    def test_so_they_would_of_other_plans(self):
        # The same hands find out, by lot, many of the plans that are bad.
        found = 0
        for plan in self.bad[::3]:
            u = judge(plan)[1]
            found += any(u in self.keepers_lost(plan, others(plan, u), u, seed) for seed in range(20))
        self.assertGreater(found, len(self.bad[::3]) // 3)

    def test_all_is_open_by_the_told_turn_if_all_keep(self):
        for plan in self.good:
            turn = done_by(plan.web, plan.leaders)
            run = Run(plan, {h: Keeper(h) for h in range(plan.web.number)}, [], turn)
            self.assertEqual((run.opened(), run.fallen()), (plan.web.passings, []))
            self.assertEqual({run.outcome(h) for h in range(plan.web.number)}, {"all"})


class Planned(unittest.TestCase):
    """The planner's plan, and one limit less."""

    def test_is_good(self):
        for plan in span_plans()[::3]:
            self.assertEqual(judge(plan_for(plan.web, plan.leaders))[0], "good")
            self.assertEqual(judge(plan_for(plan.web))[0], "good")

    def test_with_a_limit_less_by_one_that_box_stays_shut_though_all_keep(self):
        for plan in span_plans()[::8]:
            made = plan_for(plan.web, plan.leaders)
            for passing in plan.web.passings:
                less = Plan(made.web, made.leaders, {**made.limits, passing: made.limit(passing) - 1})
                self.assertEqual(judge(less), ("idle", passing))
                self.assertIn(passing, all_keep(less).fallen())


if __name__ == "__main__":
    unittest.main()
