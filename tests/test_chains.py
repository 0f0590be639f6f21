import unittest
from itertools import product

from helper import all_leaders, all_passings, by_length, some_webs, some_webs_with_leaders, walks, webs_of
from wordswap.chains import chains_from, is_chain, least_chain
from wordswap.webs import Web

# From 0 two ways of one length lead to 3, and a long one by 4.
SPREAD = Web(5, [(0, 1), (0, 2), (0, 4), (1, 3), (2, 3), (4, 1), (3, 0)])


class IsChain(unittest.TestCase):
    """Point 8."""

    def test_chains(self):
        for chain in [(3,), (1, 3), (0, 1, 3), (0, 2, 3), (0, 4, 1, 3)]:
            self.assertIs(is_chain(SPREAD, [3], chain), True)

    def test_leaders_on_the_way(self):
        self.assertIs(is_chain(SPREAD, [0, 1, 3], (0, 1, 3)), True)
        self.assertIs(is_chain(SPREAD, [0, 1, 3], (0, 1)), True)

    def test_a_tuple_without_hands(self):
        self.assertIs(is_chain(SPREAD, [3], ()), False)
        self.assertIs(is_chain(SPREAD, [], ()), False)

    def test_hands_told_twice(self):
        self.assertIs(is_chain(SPREAD, [3], (3, 0, 1, 3)), False)
        self.assertIs(is_chain(SPREAD, [3], (0, 1, 3, 0, 2, 3)), False)
        self.assertIs(is_chain(SPREAD, [3], (3, 3)), False)

    def test_hands_that_the_web_has_not(self):
        for strange in [-1, 5, 6, 99]:
            self.assertIs(is_chain(SPREAD, [3], (strange,)), False)
            self.assertIs(is_chain(SPREAD, [3], (strange, 3)), False)
            self.assertIs(is_chain(SPREAD, [3], (1, strange)), False)
            self.assertIs(is_chain(SPREAD, [3], (0, strange, 3)), False)

    def test_truths_are_no_hands(self):
        self.assertIs(is_chain(SPREAD, [1], (True,)), False)
        self.assertIs(is_chain(SPREAD, [3], (False, 1, 3)), False)

    def test_the_last_one_is_no_leader(self):
        self.assertIs(is_chain(SPREAD, [3], (0, 1)), False)
        self.assertIs(is_chain(SPREAD, [3], (3, 0)), False)
        self.assertIs(is_chain(SPREAD, [3], (0,)), False)
        self.assertIs(is_chain(SPREAD, [0, 1], (0, 1, 3)), False)

    def test_no_leaders(self):
        for chain in [(3,), (1, 3), (0, 1, 3)]:
            self.assertIs(is_chain(SPREAD, [], chain), False)

    def test_steps_that_are_no_passings(self):
        self.assertIs(is_chain(SPREAD, [3], (0, 3)), False)
        self.assertIs(is_chain(SPREAD, [3], (4, 3)), False)
        self.assertIs(is_chain(SPREAD, [1], (3, 1)), False)
        self.assertIs(is_chain(SPREAD, [3], (2, 1, 3)), False)

    def test_all_tuples_in_all_webs_of_three(self):
        tuples = [chain for size in range(5) for chain in product(range(-1, 4), repeat=size)]
        for web in webs_of(3)[::7]:
            real = walks(web)
            for leaders in all_leaders(3):
                for chain in tuples:
                    self.assertIs(is_chain(web, leaders, chain), chain in real and chain[-1] in leaders)

    def test_leaders_left_alone(self):
        leaders = [0, 3]
        is_chain(SPREAD, leaders, (1, 3))
        self.assertEqual(leaders, [0, 3])


class ChainsFrom(unittest.TestCase):
    """Point 8, all chains."""

    def test_sorted_by_length_then_as_tuples(self):
        self.assertEqual(chains_from(SPREAD, [3], 0), [(0, 1, 3), (0, 2, 3), (0, 4, 1, 3)])
        self.assertEqual(chains_from(SPREAD, [0, 1, 3], 4), [(4, 1), (4, 1, 3), (4, 1, 3, 0)])
        self.assertEqual(chains_from(SPREAD, [1, 2, 4], 3), [(3, 0, 1), (3, 0, 2), (3, 0, 4), (3, 0, 4, 1)])

    def test_the_leaders_own_word(self):
        self.assertEqual(chains_from(SPREAD, [3], 3), [(3,)])
        self.assertEqual(chains_from(Web(2, []), [0, 1], 1), [(1,)])

    def test_none_at_all(self):
        self.assertEqual(chains_from(SPREAD, [], 0), [])
        self.assertEqual(chains_from(Web(3, [(0, 1)]), [0], 1), [])

    def test_the_whole_of_six(self):
        web = Web(6, all_passings(6))
        # 1 + 5 + 5*4 + 5*4*3 + 5*4*3*2 + 5*4*3*2*1
        self.assertEqual(len(chains_from(web, list(range(6)), 2)), 326)
        self.assertEqual(chains_from(web, list(range(6)), 2)[:3], [(2,), (2, 0), (2, 1)])

    def test_in_all_webs(self):
        for web, leaders in some_webs_with_leaders():
            real = [walk for walk in walks(web) if walk[-1] in leaders]
            for x in range(web.number):
                self.assertEqual(chains_from(web, leaders, x), by_length([walk for walk in real if walk[0] == x]))

    def test_told_lists_changed_behind_and_leaders_left_alone(self):
        leaders = [3]
        chains_from(SPREAD, leaders, 0).clear()
        self.assertEqual(chains_from(SPREAD, leaders, 0), [(0, 1, 3), (0, 2, 3), (0, 4, 1, 3)])
        self.assertEqual(leaders, [3])


class LeastChain(unittest.TestCase):
    """Point 9."""

    def test_the_shortest(self):
        self.assertEqual(least_chain(Web(4, [(0, 1), (1, 2), (2, 3), (0, 3)]), 0, 3), (0, 3))
        self.assertEqual(least_chain(Web(4, [(0, 1), (1, 2), (2, 3)]), 0, 3), (0, 1, 2, 3))

    def test_of_one_length_the_least(self):
        self.assertEqual(least_chain(SPREAD, 0, 3), (0, 1, 3))
        self.assertEqual(least_chain(Web(6, [(5, 4), (5, 1), (4, 0), (1, 3), (3, 2), (0, 2)]), 5, 2), (5, 1, 3, 2))

    def test_from_a_leader_to_itself(self):
        for j in range(5):
            self.assertEqual(least_chain(SPREAD, j, j), (j,))
            self.assertEqual(least_chain(SPREAD, j, j, (j + 1) % 5), (j,))

    def test_without_a_hand(self):
        self.assertEqual(least_chain(SPREAD, 0, 3, 1), (0, 2, 3))
        self.assertEqual(least_chain(SPREAD, 0, 1, 4), (0, 1))
        self.assertEqual(least_chain(SPREAD, 3, 2, None), (3, 0, 2))

    def test_none(self):
        self.assertIsNone(least_chain(SPREAD, 3, 1, 0))
        self.assertIsNone(least_chain(SPREAD, 0, 3, 3))
        self.assertIsNone(least_chain(Web(3, [(0, 1), (2, 1)]), 0, 2))
        self.assertIsNone(least_chain(Web(2, []), 0, 1))

    def test_in_all_webs(self):
        for web in some_webs():
            real = by_length(walks(web))
            for x, j, without in product(range(web.number), range(web.number), [None, *range(web.number)]):
                if without != x:
                    fitting = [w for w in real if w[0] == x and w[-1] == j and without not in w]
                    self.assertEqual(least_chain(web, x, j, without), fitting[0] if fitting else None)


if __name__ == "__main__":
    unittest.main()
