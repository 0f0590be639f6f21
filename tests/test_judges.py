import unittest

from helper import (all_passings, even_plan, led, ledger_with, moved_to, others, plain_span, rings, some_plans,
                    span_plans, told_by, uneven_plans, walks, weighed)
from wordswap.hands import Free, Keeper
from wordswap.judges import judge
from wordswap.ledgers import Ledger
from wordswap.planners import plan_for
from wordswap.plans import Plan
from wordswap.runs import Run, all_keep
from wordswap.webs import Web

PAIR = Web(2, [(0, 1), (1, 0)])
TRIANGLE = Web(3, [(0, 1), (1, 2), (2, 0)])
# Hands 0 and 2 have no way to one another but by 1.
BY_ONE = Web(3, [(0, 1), (1, 0), (1, 2), (2, 1)])
TWO_RINGS = Web(4, [(0, 1), (1, 0), (2, 3), (3, 2), (1, 2), (3, 0)])
WHOLE = Web(3, all_passings(3))


def ring_plan(first, second, third, leaders=(0,)):
    return Plan(TRIANGLE, list(leaders), {(0, 1): first, (1, 2): second, (2, 0): third})


def pair_plan(leaders, first, second):
    return Plan(PAIR, leaders, {(0, 1): first, (1, 0): second})


def with_limit(plan, passing, limit):
    return Plan(plan.web, plan.leaders, {**plan.limits, passing: limit})


def is_worse(limits, row):
    u, j, x, w = row
    return limits[w, u] < limits[u, x]


def plain_word(plan):
    """The first word of the judge's answer, by slow looking through."""
    web, leaders = plan.web, plan.leaders
    if len({(walk[0], walk[-1]) for walk in walks(web)}) < web.number ** 2:
        return "group"
    if not led(web, leaders):
        return "ring"
    if min(plan.limits.values()) < plain_span(web, leaders):
        return "idle"
    return "loses" if any(is_worse(plan.limits, row) for row in weighed(web, leaders)) else "good"


class Judging(unittest.TestCase):
    def assert_loses(self, plan, u, deeds):
        """The deeds are such as point 25 asks for, and u loses by them."""
        self.assertIn(u, range(plan.web.number))
        self.assertIsInstance(deeds, list)
        turns = [turn for turn, deed in deeds]
        self.assertEqual(turns, sorted(turns))
        self.assertGreaterEqual(turns[0], 1)
        self.assertLessEqual(turns[-1], plan.last_turn())
        for turn, deed in deeds:
            self.assertNotEqual(deed[1][deed[0] == "say"], u)
        free = others(plan, u)
        ledger, keeper = Ledger(plan, free), Keeper(u)
        for turn in range(1, plan.last_turn() + 1):
            for deed in keeper.deeds(moved_to(ledger, turn)) + [deed for when, deed in deeds if when == turn]:
                ledger.take(deed)
        for turns in [plan.last_turn(), plan.last_turn() + 1, plan.last_turn() + 20]:
            run = Run(plan, {**{h: Free(deeds) for h in free}, u: Keeper(u)}, free, turns)
            self.assertEqual(told_by(run.ledger)[1:4], told_by(ledger)[1:4])
            self.assertEqual(run.outcome(u), "lost")

    def assert_ring(self, plan, ring):
        least = ring.index(min(ring))
        self.assertIn(tuple(ring[least:] + ring[:least]), rings(plan.web))
        self.assertFalse(set(ring) & set(plan.leaders))

    def assert_right(self, plan):
        """The judge's answer is right in all its parts; told is its word."""
        answer = judge(plan)
        self.assertIsInstance(answer, tuple)
        self.assertEqual(answer[0], plain_word(plan))
        self.assertEqual(len(answer), 3 if answer[0] == "loses" else 2)
        if answer[0] == "group":
            self.assertEqual(answer[1], plan.web.group())
        if answer[0] == "ring":
            self.assert_ring(plan, answer[1])
        if answer[0] == "idle":
            least = plain_span(plan.web, plan.leaders)
            self.assertEqual(answer[1], min(box for box, limit in plan.limits.items() if limit < least))
        if answer[0] == "loses":
            self.assert_loses(plan, answer[1], answer[2])
        if answer[0] == "good":
            self.assertEqual(answer[1], weighed(plan.web, plan.leaders))
        return answer[0]


class Groups(Judging):
    def test_told_groups(self):
        self.assertEqual(judge(even_plan(Web(2, []), [0], 9)), ("group", [0]))
        self.assertEqual(judge(even_plan(Web(2, [(0, 1)]), [0], 9)), ("group", [1]))
        self.assertEqual(judge(even_plan(Web(4, TRIANGLE.passings), [0], 9)), ("group", [0, 1, 2]))
        self.assertEqual(judge(even_plan(Web(3, [(0, 1), (1, 2), (2, 1)]), [1], 9)), ("group", [1, 2]))

    def test_ahead_of_all_others(self):
        # A ring without a leader, idle limits, limits that fall the wrong way.
        web = Web(4, [(0, 1), (1, 0), (1, 2), (2, 3), (3, 2)])
        for leaders in [[0], [1], [0, 2], [0, 1, 2, 3]]:
            for plan in [even_plan(web, leaders, 0), even_plan(web, leaders, 5),
                         with_limit(even_plan(web, leaders, 5), (0, 1), 9)]:
                self.assertEqual(judge(plan), ("group", [2, 3]))


class Rings(Judging):
    def test_told_rings(self):
        word, ring = judge(even_plan(TWO_RINGS, [0], 9))
        self.assertEqual((word, sorted(ring)), ("ring", [2, 3]))
        word, ring = judge(even_plan(TWO_RINGS, [3], 9))
        self.assertEqual((word, sorted(ring)), ("ring", [0, 1]))
        word, ring = judge(even_plan(BY_ONE, [0], 9))
        self.assertEqual((word, sorted(ring)), ("ring", [1, 2]))

    def test_ahead_of_idle_and_loses(self):
        for plan in [even_plan(TWO_RINGS, [0], 0), with_limit(even_plan(TWO_RINGS, [0], 9), (1, 0), 12)]:
            word, ring = judge(plan)
            self.assertEqual((word, sorted(ring)), ("ring", [2, 3]))


class Idle(Judging):
    def test_a_limit_less_than_the_span(self):
        self.assertEqual(judge(ring_plan(2, 3, 3)), ("idle", (0, 1)))
        self.assertEqual(judge(ring_plan(3, 2, 3)), ("idle", (1, 2)))
        self.assertEqual(judge(ring_plan(3, 3, 2)), ("idle", (2, 0)))
        self.assertEqual(judge(ring_plan(9, 9, 0)), ("idle", (2, 0)))
        self.assertEqual(judge(ring_plan(1, 1, 0, (0, 1, 2))), ("idle", (2, 0)))

    def test_the_least_such_passing(self):
        self.assertEqual(judge(ring_plan(3, 2, 0)), ("idle", (1, 2)))
        self.assertEqual(judge(ring_plan(2, 0, 1)), ("idle", (0, 1)))
        self.assertEqual(judge(even_plan(WHOLE, [1, 2], 0)), ("idle", (0, 1)))

    def test_ahead_of_loses(self):
        self.assertEqual(judge(ring_plan(3, 9, 2)), ("idle", (2, 0)))
        self.assertEqual(judge(ring_plan(2, 9, 9)), ("idle", (0, 1)))

    def test_such_a_box_stays_shut_though_all_keep(self):
        met = 0
        for plan in some_plans():
            answer = judge(plan)
            if answer[0] == "idle":
                met += 1
                self.assertIn(answer[1], all_keep(plan).fallen())
        self.assertGreater(met, 20)


class Loses(Judging):
    def test_told_limits(self):
        for plan in [ring_plan(3, 4, 3), ring_plan(4, 4, 5), ring_plan(5, 4, 6), pair_plan([0], 2, 3),
                     pair_plan([1], 3, 2), pair_plan([0, 1], 1, 2), pair_plan([0, 1], 2, 1)]:
            self.assertEqual(self.assert_right(plan), "loses")

    def test_who_loses(self):
        self.assertEqual(judge(ring_plan(3, 4, 3))[1], 1)
        self.assertEqual(judge(ring_plan(4, 4, 5))[1], 2)
        self.assertEqual(judge(pair_plan([0], 2, 3))[1], 1)
        self.assertEqual(judge(pair_plan([1], 3, 2))[1], 0)
        self.assertEqual(judge(pair_plan([0, 1], 1, 2))[1], 1)

    def test_words_that_come_only_by_the_one_who_loses(self):
        # Hand 1 loses to 0, whose box needs 2's word: and 0 hears of it from 1 alone.
        for leaders in [[0, 2], [0, 1, 2]]:
            plan = even_plan(BY_ONE, leaders, 2)
            self.assertEqual(self.assert_right(with_limit(plan, (1, 0), 3)), "loses")
            self.assertEqual(self.assert_right(with_limit(plan, (1, 2), 3)), "loses")
        star = Web(4, [(0, 1), (1, 0), (0, 2), (2, 0), (0, 3), (3, 0)])
        for leaders in [[1, 2, 3], [0, 1, 2, 3]]:
            limit = plain_span(star, leaders)
            for passing in star.passings:
                self.assert_right(with_limit(even_plan(star, leaders, limit), passing, limit + 1))

    def test_limits_as_tight_as_can_be(self):
        # Just one limit greater by one than the span: all else is at the edge.
        words = set()
        for plan in span_plans()[::6]:
            for passing in plan.web.passings[::3]:
                words.add(self.assert_right(with_limit(plan, passing, plan.limit(passing) + 1)))
        self.assertEqual(words, {"loses", "good"})

    def test_limits_far_apart(self):
        for plan in [ring_plan(3, 100, 3), pair_plan([0, 1], 1, 100), with_limit(even_plan(BY_ONE, [0, 2], 2), (1, 0), 90)]:
            self.assertEqual(self.assert_right(plan), "loses")

    def test_the_keeper_does_what_it_does_in_time_where_limits_are_alike(self):
        # The same deeds against good limits: so it is the limits that tell.
        plan = ring_plan(3, 4, 3)
        word, u, deeds = judge(plan)
        good = ring_plan(4, 4, 3)
        run = Run(good, {**{h: Free(deeds) for h in others(good, u)}, u: Keeper(u)}, others(good, u), good.last_turn())
        self.assertEqual(run.outcome(u), "all")


class Good(Judging):
    def test_told_papers(self):
        self.assertEqual(judge(ring_plan(3, 3, 3)), ("good", [(1, 0, 2, 0), (2, 0, 0, 1)]))
        self.assertEqual(judge(pair_plan([0], 2, 2)), ("good", [(1, 0, 0, 0)]))
        self.assertEqual(judge(pair_plan([0, 1], 1, 1)), ("good", [(0, 1, 1, 1), (1, 0, 0, 0)]))
        self.assertEqual(judge(even_plan(BY_ONE, [1], 2)),
                         ("good", [(0, 1, 1, 1), (2, 1, 1, 1)]))
        self.assertEqual(judge(even_plan(BY_ONE, [0, 2], 2)), ("good", [
            (0, 2, 1, 1), (1, 0, 0, 0), (1, 0, 0, 2), (1, 2, 2, 0), (1, 2, 2, 2), (2, 0, 1, 1)]))
        self.assertEqual(judge(even_plan(WHOLE, [0, 1], 2)), ("good", [
            (0, 1, 1, 1), (0, 1, 1, 2), (0, 1, 2, 1), (0, 1, 2, 2), (1, 0, 0, 0), (1, 0, 0, 2), (1, 0, 2, 0),
            (1, 0, 2, 2), (2, 0, 0, 0), (2, 0, 0, 1), (2, 0, 1, 0), (2, 0, 1, 1), (2, 1, 0, 0), (2, 1, 0, 1),
            (2, 1, 1, 0), (2, 1, 1, 1)]))

    def test_limits_at_the_edge(self):
        for limits in [(3, 3, 3), (4, 3, 3), (5, 4, 3), (9, 9, 3), (100, 50, 3)]:
            self.assertEqual(judge(ring_plan(*limits))[0], "good")
        for limits in [(3, 4, 3), (3, 3, 4), (9, 9, 10), (99, 100, 3)]:
            self.assertEqual(judge(ring_plan(*limits))[0], "loses")
        self.assertEqual(judge(pair_plan([0], 3, 2))[0], "good")
        self.assertEqual(judge(pair_plan([1], 2, 3))[0], "good")
        self.assertEqual(judge(pair_plan([0, 1], 7, 7))[0], "good")

    def test_the_planners_plans(self):
        for plan in span_plans():
            made = plan_for(plan.web, plan.leaders)
            self.assertEqual(judge(made), ("good", weighed(made.web, made.leaders)))
        for plan in span_plans()[::9]:
            self.assertEqual(judge(plan_for(plan.web))[0], "good")


class All(Judging):
    def test_limits_of_all_sorts(self):
        words = [self.assert_right(plan) for plan in some_plans()]
        self.assertEqual({"group", "ring", "idle", "loses"} - set(words), set())

    def test_limits_from_the_span_on(self):
        words = [self.assert_right(plan) for plan in uneven_plans()]
        self.assertGreater(words.count("good"), 100)
        self.assertGreater(words.count("loses"), 100)

    def test_all_small_limits_of_small_webs(self):
        words = []
        for leaders in [[0], [1], [0, 1]]:
            words += [self.assert_right(pair_plan(leaders, first, second)) for first in range(5) for second in range(5)]
        for leaders in [[0], [0, 1], [0, 1, 2]]:
            words += [self.assert_right(ring_plan(first, second, third, leaders))
                      for first in range(5) for second in range(5) for third in range(5)]
        self.assertEqual(set(words), {"idle", "loses", "good"})


class Asked(Judging):
    """Point 2."""

    PLANS = [even_plan(Web(4, TRIANGLE.passings), [0], 9), even_plan(TWO_RINGS, [0], 9), ring_plan(2, 3, 3),
             ring_plan(3, 4, 3), ring_plan(3, 3, 3)]

    def test_nothing_is_changed(self):
        for plan in self.PLANS:
            kept = (list(plan.leaders), dict(plan.limits), list(plan.web.passings), plan.last_turn())
            judge(plan)
            self.assertEqual((plan.leaders, plan.limits, plan.web.passings, plan.last_turn()), kept)

    def test_what_is_told_is_the_askers_own(self):
        for plan in self.PLANS:
            kept = repr(judge(plan))
            if plain_word(plan) != "idle":
                judge(plan)[-1].clear()
            self.assertEqual(repr(judge(plan)), kept)

    def test_what_a_plan_was_made_of_may_be_changed(self):
        limits, leaders = {(0, 1): 3, (1, 2): 3, (2, 0): 3}, [0]
        plan = Plan(TRIANGLE, leaders, limits)
        limits[0, 1] = 0
        leaders.append(1)
        self.assertEqual(judge(plan), judge(ring_plan(3, 3, 3)))

    def test_the_deeds_are_such_as_a_ledger_of_free_hands_takes(self):
        plan = ring_plan(3, 4, 3)
        word, u, deeds = judge(plan)
        keeper_deeds = [(2, ("lay", (1, 2)))]
        ledger = ledger_with(plan, sorted(deeds + keeper_deeds), plan.last_turn(), others(plan, u))
        self.assertEqual(ledger.opened(), [(1, 2)])


if __name__ == "__main__":
    unittest.main()
