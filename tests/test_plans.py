import unittest

from helper import all_passings, even_plan, some_plans
from wordswap.errors import NoPlan
from wordswap.plans import Plan
from wordswap.webs import Web

TRIANGLE = Web(3, [(2, 0), (0, 1), (1, 2)])
LIMITS = {(0, 1): 3, (1, 2): 0, (2, 0): 7}


class Making(unittest.TestCase):
    """Point 10."""

    def refused(self, web, leaders, limits, at):
        before = (list(leaders), dict(limits))
        with self.assertRaises(NoPlan) as taken:
            Plan(web, leaders, limits)
        self.assertEqual(taken.exception.at, at)
        self.assertEqual((leaders, limits), before)

    def test_values(self):
        plan = Plan(TRIANGLE, [0, 2], LIMITS)
        self.assertIs(plan.web, TRIANGLE)
        self.assertEqual(plan.leaders, [0, 2])
        self.assertIsInstance(plan.leaders, list)
        self.assertEqual(plan.limits, LIMITS)
        self.assertIsInstance(plan.limits, dict)

    def test_limit_of_each_passing(self):
        plan = Plan(TRIANGLE, [1], LIMITS)
        self.assertEqual([plan.limit(passing) for passing in [(0, 1), (1, 2), (2, 0)]], [3, 0, 7])

    def test_all_sets_of_leaders(self):
        for leaders in [[0], [1], [2], [0, 1], [0, 2], [1, 2], [0, 1, 2]]:
            self.assertEqual(Plan(TRIANGLE, leaders, LIMITS).leaders, leaders)

    def test_a_web_without_passings(self):
        plan = Plan(Web(2, []), [1], {})
        self.assertEqual((plan.leaders, plan.limits), ([1], {}))

    def test_a_web_that_is_not_joined_or_has_a_ring_without_a_leader(self):
        self.assertEqual(Plan(Web(3, [(0, 1), (1, 0)]), [2], {(0, 1): 1, (1, 0): 1}).leaders, [2])

    def test_no_leader(self):
        self.refused(TRIANGLE, [], LIMITS, None)
        self.refused(Web(2, []), [], {}, None)

    def test_leaders_that_do_not_rise(self):
        for leaders in [[1, 0], [2, 1, 0], [0, 2, 1], [1, 2, 0]]:
            self.refused(TRIANGLE, leaders, LIMITS, None)

    def test_leaders_told_twice(self):
        for leaders in [[0, 0], [0, 1, 1], [0, 0, 2], [2, 2, 2]]:
            self.refused(TRIANGLE, leaders, LIMITS, None)

    def test_leaders_that_are_no_hands(self):
        for leaders in [[-1], [-1, 0], [3], [0, 3], [0, 1, 2, 3], [99], [True], [False, 2]]:
            self.refused(TRIANGLE, leaders, LIMITS, None)
        self.refused(Web(6, []), [0, 6], {}, None)
        self.assertEqual(Plan(Web(6, []), [0, 5], {}).leaders, [0, 5])

    def test_leaders_that_are_no_list(self):
        for leaders in [(0, 1), None, {0: True}, 0]:
            with self.assertRaises(NoPlan) as taken:
                Plan(TRIANGLE, leaders, LIMITS)
            self.assertIsNone(taken.exception.at)

    def test_leaders_go_ahead_of_limits(self):
        for leaders in [[], [1, 0], [0, 0], [-1], [3]]:
            self.refused(TRIANGLE, leaders, {}, None)
            self.refused(TRIANGLE, leaders, {(1, 2): 4}, None)

    def test_the_first_passing_without_a_limit(self):
        self.refused(TRIANGLE, [0], {}, (0, 1))
        self.refused(TRIANGLE, [0], {(0, 1): 1}, (1, 2))
        self.refused(TRIANGLE, [0], {(2, 0): 1}, (0, 1))
        self.refused(TRIANGLE, [0], {(1, 2): 1, (0, 1): 1}, (2, 0))
        self.refused(TRIANGLE, [0], {(2, 0): 1, (0, 1): 1}, (1, 2))

    def test_the_wrong_way_round_is_no_limit(self):
        self.refused(TRIANGLE, [0], {(1, 0): 1, (2, 1): 1, (0, 2): 1}, (0, 1))

    def test_numbers_below_nought_and_truths_are_no_limits(self):
        self.refused(TRIANGLE, [0], {(0, 1): 0, (1, 2): -1, (2, 0): -1}, (1, 2))
        self.refused(TRIANGLE, [0], {(0, 1): 0, (1, 2): 0, (2, 0): True}, (2, 0))
        self.refused(TRIANGLE, [0], {(0, 1): None, (1, 2): 0, (2, 0): 0}, (0, 1))

    def test_limits_from_nought_on(self):
        for limit in [0, 1, 2, 99, 100, 101, 123456789]:
            plan = even_plan(TRIANGLE, [0], limit)
            self.assertEqual([plan.limit(passing) for passing in TRIANGLE.passings], [limit] * 3)

    def test_limits_of_no_passings_are_not_looked_at_and_not_kept(self):
        others = {(1, 0): 50, (0, 0): -4, (7, 9): 1000, (0, 2): None}
        plan = Plan(TRIANGLE, [0], {**others, **LIMITS})
        self.assertEqual(plan.limits, LIMITS)
        self.assertEqual(plan.last_turn(), 7 + 3 + 1)
        self.refused(TRIANGLE, [0], {**others, (0, 1): 2, (1, 2): 2}, (2, 0))
        self.assertEqual(Plan(Web(2, []), [0], others).limits, {})

    def test_what_is_handed_in_is_left_alone(self):
        leaders, limits = [0, 1], {**LIMITS, (1, 0): 9}
        Plan(TRIANGLE, leaders, limits).last_turn()
        self.assertEqual((leaders, limits), ([0, 1], {**LIMITS, (1, 0): 9}))

    def test_what_is_handed_in_changed_behind(self):
        leaders, limits = [0, 1], dict(LIMITS)
        plan = Plan(TRIANGLE, leaders, limits)
        leaders.append(2)
        limits[(0, 1)] = 55
        limits.pop((2, 0))
        self.assertEqual((plan.leaders, plan.limits), ([0, 1], LIMITS))
        self.assertEqual([plan.limit(passing) for passing in TRIANGLE.passings], [3, 0, 7])
        self.assertEqual(plan.last_turn(), 11)

    def test_what_limits_tells_changed_behind(self):
        plan = Plan(TRIANGLE, [0, 1], LIMITS)
        plan.limits[(0, 1)] = 55
        plan.limits.pop((2, 0))
        plan.leaders.clear()
        self.assertEqual([plan.limit(passing) for passing in TRIANGLE.passings], [3, 0, 7])
        self.assertEqual(plan.last_turn(), 11)
        self.assertEqual(LIMITS, {(0, 1): 3, (1, 2): 0, (2, 0): 7})

    def test_two_plans_over_one_web(self):
        leaders = [1]
        first, second = Plan(TRIANGLE, leaders, LIMITS), Plan(TRIANGLE, leaders, LIMITS)
        first.leaders.append(2)
        first.limits.clear()
        self.assertEqual((second.leaders, second.limits, second.last_turn()), ([1], LIMITS, 11))


class LastTurn(unittest.TestCase):
    """Point 22."""

    def test_the_greatest_limit_counts(self):
        self.assertEqual(Plan(TRIANGLE, [0], {(0, 1): 9, (1, 2): 0, (2, 0): 7}).last_turn(), 13)
        self.assertEqual(Plan(TRIANGLE, [0], {(0, 1): 1, (1, 2): 5, (2, 0): 4}).last_turn(), 9)
        self.assertEqual(Plan(TRIANGLE, [0], {(0, 1): 1, (1, 2): 2, (2, 0): 3}).last_turn(), 7)

    def test_the_number_of_hands_counts_not_that_of_passings_or_leaders(self):
        for number in range(2, 7):
            web = Web(number, [(0, 1)])
            for leaders in [[0], [0, 1], list(range(number))]:
                self.assertEqual(Plan(web, leaders, {(0, 1): 4}).last_turn(), 4 + number + 1)
            self.assertEqual(even_plan(Web(number, all_passings(number)), [0], 4).last_turn(), 4 + number + 1)

    def test_a_web_without_passings(self):
        for number in range(2, 7):
            self.assertEqual(Plan(Web(number, []), [0], {}).last_turn(), number + 1)
            self.assertEqual(Plan(Web(number, []), [1], {(0, 1): 30}).last_turn(), number + 1)

    def test_limits_of_nought(self):
        self.assertEqual(even_plan(TRIANGLE, [0], 0).last_turn(), 4)

    def test_in_many_plans(self):
        for plan in some_plans():
            self.assertEqual(plan.last_turn(), max([0, *plan.limits.values()]) + plan.web.number + 1)


if __name__ == "__main__":
    unittest.main()
