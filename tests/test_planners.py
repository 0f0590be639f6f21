import unittest
from itertools import combinations

from helper import (all_leaders, all_passings, led, plain_span, rings, some_webs, some_webs_with_leaders, span_plans,
                    walks)
from wordswap.errors import NoLeader, NoPlan, NotJoined
from wordswap.hands import Keeper
from wordswap.planners import done_by, least_leaders, plan_for, span
from wordswap.plans import Plan
from wordswap.runs import Run, all_keep
from wordswap.webs import Web

TRIANGLE = Web(3, [(0, 1), (1, 2), (2, 0)])
PAIR = Web(2, [(0, 1), (1, 0)])
# Two rings that meet in hand 2.
EIGHT = Web(5, [(0, 1), (1, 2), (2, 0), (2, 3), (3, 4), (4, 2)])
# Two rings that do not meet, joined by a third.
TWO_RINGS = Web(4, [(0, 1), (1, 0), (2, 3), (3, 2), (1, 2), (3, 0)])
LINE = Web(3, [(0, 1), (1, 2)])
# Not joined, and the ring of 1 and 2 has no leader where only 0 leads.
APART = Web(3, [(0, 1), (1, 2), (2, 1)])


def whole(number):
    return Web(number, all_passings(number))


class LeastLeaders(unittest.TestCase):
    """Point 24."""

    def test_no_ring(self):
        self.assertEqual(least_leaders(LINE), [0])
        self.assertEqual(least_leaders(Web(2, [])), [0])
        self.assertEqual(least_leaders(Web(6, [])), [0])
        self.assertEqual(least_leaders(Web(3, [(2, 1), (1, 0), (2, 0)])), [0])

    def test_one_ring(self):
        self.assertEqual(least_leaders(TRIANGLE), [0])
        self.assertEqual(least_leaders(PAIR), [0])
        self.assertEqual(least_leaders(APART), [1])
        self.assertEqual(least_leaders(Web(6, [(0, 5), (5, 4), (4, 3), (3, 5)])), [3])

    def test_rings_that_meet(self):
        self.assertEqual(least_leaders(EIGHT), [2])
        self.assertEqual(least_leaders(Web(4, [(0, 3), (3, 0), (1, 3), (3, 1), (2, 3), (3, 2)])), [3])
        self.assertEqual(least_leaders(Web(3, [(0, 1), (1, 0), (1, 2), (2, 1)])), [1])
        self.assertEqual(least_leaders(Web(4, [(0, 1), (1, 0), (1, 2), (2, 1), (2, 3), (3, 2)])), [0, 2])
        self.assertEqual(least_leaders(Web(5, [(0, 4), (4, 0), (1, 4), (4, 1), (2, 3), (3, 2)])), [2, 4])

    def test_rings_that_do_not_meet(self):
        self.assertEqual(least_leaders(TWO_RINGS), [0, 2])
        self.assertEqual(least_leaders(Web(6, [(0, 1), (1, 0), (2, 3), (3, 2), (4, 5), (5, 4)])), [0, 2, 4])

    def test_all_wish_for_all(self):
        for number in range(2, 7):
            self.assertEqual(least_leaders(whole(number)), list(range(number - 1)))

    def test_the_fewest_and_of_these_the_least(self):
        for web in some_webs():
            tried = [list(leaders) for size in range(1, web.number + 1)
                     for leaders in combinations(range(web.number), size)]
            self.assertEqual(least_leaders(web), [leaders for leaders in tried if led(web, leaders)][0])

    def test_the_list_is_a_new_one(self):
        least_leaders(EIGHT).append(4)
        self.assertEqual(least_leaders(EIGHT), [2])


class Span(unittest.TestCase):
    """Points 7, 24."""

    def test_with_the_least_leaders(self):
        for web, answer in [(PAIR, 2), (TRIANGLE, 3), (EIGHT, 3), (TWO_RINGS, 2), (LINE, 3), (whole(6), 2),
                            (Web(2, []), 1)]:
            self.assertEqual(span(web, least_leaders(web)), answer)

    def test_with_other_leaders(self):
        for leaders, answer in [([0, 1], 2), ([2], 3), ([0, 1, 2], 1), ([0, 2], 2)]:
            self.assertEqual(span(TRIANGLE, leaders), answer)
        self.assertEqual(span(EIGHT, [0, 3]), 3)
        self.assertEqual(span(EIGHT, [0, 4]), 4)
        self.assertEqual(span(EIGHT, [1, 3]), 4)

    def test_without_leaders_where_there_is_no_ring(self):
        self.assertEqual(span(LINE, []), 3)
        self.assertEqual(span(Web(2, []), []), 1)
        self.assertEqual(span(Web(6, [(0, 1), (1, 2), (2, 3), (3, 4), (4, 5), (0, 5)]), []), 6)
        self.assertEqual(span(LINE, [1]), 2)

    def test_many(self):
        tried = 0
        for web, leaders in some_webs_with_leaders():
            if led(web, leaders):
                tried += 1
                self.assertEqual(span(web, leaders), plain_span(web, leaders))
        self.assertGreater(tried, 1000)


class PlanFor(unittest.TestCase):
    """Point 24."""

    def assert_refused(self, error, at, web, *leaders):
        with self.assertRaises(error) as caught:
            plan_for(web, *leaders)
        self.assertEqual(caught.exception.at, at)

    def test_without_leaders(self):
        for web in [web for web in some_webs() if web.group() is None]:
            for plan in [plan_for(web), plan_for(web, None)]:
                self.assertIsInstance(plan, Plan)
                self.assertIs(plan.web, web)
                self.assertEqual(plan.leaders, least_leaders(web))
                limit = plain_span(web, plan.leaders)
                self.assertEqual(plan.limits, {passing: limit for passing in web.passings})

    def test_with_leaders(self):
        for web, leaders in [(web, leaders) for web in some_webs()[::2] for leaders in all_leaders(web.number)]:
            if leaders and web.group() is None and led(web, leaders):
                plan = plan_for(web, leaders)
                self.assertEqual((plan.web, plan.leaders), (web, leaders))
                limit = plain_span(web, leaders)
                self.assertEqual(plan.limits, {passing: limit for passing in web.passings})

    def test_told_plans(self):
        self.assertEqual(plan_for(TRIANGLE).limits, {(0, 1): 3, (1, 2): 3, (2, 0): 3})
        self.assertEqual(plan_for(TRIANGLE, [1, 2]).leaders, [1, 2])
        self.assertEqual(plan_for(TRIANGLE, [1, 2]).limits, {(0, 1): 2, (1, 2): 2, (2, 0): 2})
        self.assertEqual(plan_for(TRIANGLE, [0, 1, 2]).limits, {(0, 1): 1, (1, 2): 1, (2, 0): 1})

    def test_leaders_that_are_none(self):
        for leaders in [[], [1, 0], [0, 0], [3], [0, 3], [-1], [-1, 0], [0, 1, 1], [0, 1, 2, 3], [2, 1, 0]]:
            self.assert_refused(NoPlan, None, TRIANGLE, leaders)

    def test_a_web_that_is_not_joined(self):
        for leaders in [[], [[0]], [[0, 1, 2]]]:
            self.assert_refused(NotJoined, [1, 2], APART, *leaders)
            self.assert_refused(NotJoined, [0, 1, 2], Web(4, TRIANGLE.passings), *leaders)
        self.assert_refused(NotJoined, [0], Web(2, []))
        self.assert_refused(NotJoined, [1], Web(2, [(0, 1)]), [0])

    def test_a_ring_without_a_leader(self):
        met = 0
        for web, leaders in some_webs_with_leaders():
            if leaders and web.group() is None and not led(web, leaders):
                with self.assertRaises(NoLeader) as caught:
                    plan_for(web, leaders)
                ring = caught.exception.at
                least = ring.index(min(ring))
                self.assertIn(tuple(ring[least:] + ring[:least]), rings(web))
                self.assertFalse(set(ring) & set(leaders))
                met += 1
        self.assertGreater(met, 300)
        with self.assertRaises(NoLeader) as caught:
            plan_for(EIGHT, [0])
        self.assertEqual(sorted(caught.exception.at), [2, 3, 4])

    def test_which_refusal_goes_ahead(self):
        # Of APART all three would hold with these, NotJoined and NoLeader with [0].
        for leaders in [[], [1, 0], [5], [0, 0]]:
            self.assert_refused(NoPlan, None, APART, leaders)
            self.assert_refused(NoPlan, None, LINE, leaders)
            self.assert_refused(NoPlan, None, EIGHT, leaders)
        self.assert_refused(NotJoined, [1, 2], APART, [0])
        self.assert_refused(NotJoined, [1, 2], APART, [1])
        self.assert_refused(NotJoined, [1, 2], APART)

    def test_what_is_handed_in_is_neither_changed_nor_kept(self):
        leaders = [0, 2]
        plan = plan_for(TRIANGLE, leaders)
        self.assertEqual(leaders, [0, 2])
        leaders.append(7)
        self.assertEqual((plan.leaders, plan.leads(1)), ([0, 2], False))
        self.assertEqual(TRIANGLE.passings, [(0, 1), (1, 2), (2, 0)])

    def test_plans_do_not_share_what_they_hold(self):
        first = plan_for(EIGHT)
        first.leaders.append(3)
        first.limits[(0, 1)] = 0
        again = plan_for(EIGHT)
        self.assertEqual((again.leaders, again.limits[(0, 1)]), ([2], 3))


def keep(plan, turns):
    return Run(plan, {h: Keeper(h) for h in range(plan.web.number)}, [], turns)


class DoneBy(unittest.TestCase):
    """Points 3, 24."""

    def test_told_turns(self):
        self.assertEqual(done_by(TRIANGLE, [0]), 6)
        self.assertEqual(done_by(TRIANGLE, [0, 1, 2]), 4)
        self.assertEqual(done_by(PAIR, [0]), 4)
        self.assertEqual(done_by(PAIR, [0, 1]), 3)
        self.assertEqual(done_by(EIGHT, [2]), 6)
        self.assertEqual(done_by(EIGHT, [0, 2]), 7)
        self.assertEqual(done_by(whole(6), [0, 1, 2, 3, 4]), 4)

    def test_the_span_and_the_longest_least_chain(self):
        for plan in span_plans():
            shortest = [min(len(walk) for walk in walks(plan.web) if walk[0] == h and walk[-1] == leader)
                        for h in range(plan.web.number) for leader in plan.leaders]
            self.assertEqual(done_by(plan.web, plan.leaders), plain_span(plan.web, plan.leaders) + max(shortest))

    def test_all_is_open_by_then_and_not_always_a_turn_sooner(self):
        just_then = 0
        for plan in span_plans()[::2]:
            web, leaders = plan.web, plan.leaders
            turn = done_by(web, leaders)
            self.assertLessEqual(turn, plan.last_turn())
            self.assertEqual(keep(plan_for(web, leaders), turn).opened(), web.passings)
            self.assertEqual(all_keep(plan_for(web, leaders)).opened(), web.passings)
            just_then += keep(plan_for(web, leaders), turn - 1).fallen() != []
        self.assertGreater(just_then, 100)
        self.assertEqual(keep(plan_for(TRIANGLE), 5).fallen(), [(0, 1)])
        self.assertEqual(keep(plan_for(PAIR), 3).fallen(), [(0, 1)])

    def test_leaders_are_not_changed(self):
        leaders = [0, 2]
        done_by(EIGHT, leaders)
        span(EIGHT, leaders)
        self.assertEqual(leaders, [0, 2])


if __name__ == "__main__":
    unittest.main()
