import unittest

from helper import all_passings, some_webs, some_webs_with_leaders, walks
from wordswap.errors import NoWeb
from wordswap.webs import Web

TRIANGLE = [(0, 1), (1, 2), (2, 0)]


class Making(unittest.TestCase):
    """Point 4."""

    def refused(self, number, passings, at):
        before = list(passings)
        with self.assertRaises(NoWeb) as taken:
            Web(number, passings)
        self.assertEqual(taken.exception.at, at)
        self.assertIs(taken.exception.at is None, at is None)
        self.assertEqual(passings, before)

    def test_two_to_six_hands(self):
        for number in range(2, 7):
            web = Web(number, all_passings(number))
            self.assertEqual(web.number, number)
            self.assertEqual(web.passings, all_passings(number))

    def test_other_numbers_of_hands(self):
        for number in [-7, -2, -1, 0, 1, 7, 8, 100]:
            self.refused(number, [], None)
            self.refused(number, [(0, 1)], None)

    def test_number_of_hands_goes_ahead_of_passings(self):
        for number in [-1, 0, 1, 7, 9]:
            self.refused(number, [(0, 0)], None)
            self.refused(number, [(0, 1), (0, 1)], None)
            self.refused(number, [(-1, 99)], None)

    def test_truths_are_no_hands(self):
        self.refused(3, [(0, 2), (True, 2)], 1)
        self.refused(3, [(2, False)], 0)
        self.refused(True, [], None)

    def test_two_like_hands(self):
        self.refused(2, [(0, 0)], 0)
        self.refused(3, [(0, 1), (1, 0), (2, 2)], 2)

    def test_hands_that_are_not_there(self):
        self.refused(2, [(0, 2)], 0)
        self.refused(2, [(2, 0)], 0)
        self.refused(3, [(0, 1), (-1, 2)], 1)
        self.refused(3, [(0, 1), (1, -1)], 1)
        self.refused(6, [(0, 5), (5, 0), (6, 5)], 2)
        self.refused(6, [(0, 5), (5, 0), (5, 6)], 2)

    def test_told_twice(self):
        self.refused(2, [(0, 1), (0, 1)], 1)
        self.refused(3, [(0, 1), (1, 2), (2, 0), (1, 2), (0, 1)], 3)

    def test_to_and_fro_is_not_twice(self):
        self.assertEqual(Web(2, [(1, 0), (0, 1)]).passings, [(0, 1), (1, 0)])

    def test_the_first_wrong_one_in_the_order_handed_in(self):
        self.refused(3, [(2, 1), (2, 2), (0, 0), (2, 1)], 1)
        self.refused(3, [(2, 1), (0, 1), (2, 1), (0, 3)], 2)
        self.refused(3, [(2, 1), (0, 3), (2, 1), (1, 1)], 1)

    def test_no_passings(self):
        for number in range(2, 7):
            self.assertEqual(Web(number, []).passings, [])

    def test_told_sorted(self):
        web = Web(4, [(3, 0), (0, 2), (2, 3), (0, 1), (2, 1)])
        self.assertEqual(web.passings, [(0, 1), (0, 2), (2, 1), (2, 3), (3, 0)])

    def test_the_list_handed_in_is_left_alone(self):
        handed = [(2, 0), (0, 1)]
        web = Web(3, handed)
        self.assertEqual(handed, [(2, 0), (0, 1)])
        web.takers_of(0)
        web.ring([])
        self.assertEqual(handed, [(2, 0), (0, 1)])

    def test_the_list_handed_in_emptied_behind(self):
        handed = [(2, 0), (1, 2), (0, 1)]
        web = Web(3, handed)
        handed.clear()
        self.assertEqual(web.passings, TRIANGLE)
        self.assertEqual(web.takers_of(0), [1])
        self.assertEqual(web.givers_of(0), [2])
        self.assertIsNone(web.group())
        self.assertEqual(web.lay_turns([0]), [1, 2, 3])

    def test_the_list_handed_in_lengthened_behind(self):
        handed = [(0, 1)]
        web = Web(2, handed)
        handed.append((1, 0))
        self.assertEqual(web.passings, [(0, 1)])
        self.assertEqual(web.group(), [1])


def reached(web, h, without):
    """The ends of all walks of unlike hands: each way can be cut to such."""
    return sorted({walk[-1] for walk in walks(web) if walk[0] == h and without not in walk})


class Ways(unittest.TestCase):
    """Point 5."""

    def test_givers_and_takers(self):
        web = Web(4, [(3, 0), (2, 0), (0, 3), (1, 0), (0, 1)])
        self.assertEqual([web.givers_of(h) for h in range(4)], [[1, 2, 3], [0], [], [0]])
        self.assertEqual([web.takers_of(h) for h in range(4)], [[1, 3], [0], [0], [0]])

    def test_givers_and_takers_of_all_webs(self):
        for web in some_webs():
            for h in range(web.number):
                self.assertEqual(web.givers_of(h), [x for x in range(web.number) if (x, h) in web.passings])
                self.assertEqual(web.takers_of(h), [x for x in range(web.number) if (h, x) in web.passings])

    def test_reach(self):
        web = Web(6, [(0, 4), (4, 2), (2, 0), (2, 5), (3, 1)])
        self.assertEqual([web.reach(h) for h in range(6)],
                         [[0, 2, 4, 5], [1], [0, 2, 4, 5], [1, 3], [0, 2, 4, 5], [5]])

    def test_reach_without_a_hand(self):
        web = Web(5, [(0, 1), (1, 2), (2, 3), (0, 3), (3, 4), (4, 0)])
        self.assertEqual(web.reach(0, 3), [0, 1, 2])
        self.assertEqual(web.reach(0, 1), [0, 3, 4])
        self.assertEqual(web.reach(1, 2), [1])
        self.assertEqual(web.reach(1, 0), [1, 2, 3, 4])
        self.assertEqual(web.reach(1, None), [0, 1, 2, 3, 4])

    def test_reach_in_all_webs(self):
        for web in some_webs():
            for h in range(web.number):
                self.assertEqual(web.reach(h), reached(web, h, None))

    def test_reach_without_a_hand_in_all_webs(self):
        for web in some_webs():
            for h in range(web.number):
                for without in range(web.number):
                    if without != h:
                        self.assertEqual(web.reach(h, without), reached(web, h, without))

    def test_no_group_where_joined(self):
        self.assertIsNone(Web(2, [(0, 1), (1, 0)]).group())
        self.assertIsNone(Web(3, TRIANGLE).group())
        self.assertIsNone(Web(6, all_passings(6)).group())

    def test_group_is_of_the_least_hand(self):
        self.assertEqual(Web(2, []).group(), [0])
        self.assertEqual(Web(2, [(0, 1)]).group(), [1])
        self.assertEqual(Web(2, [(1, 0)]).group(), [0])
        self.assertEqual(Web(4, [(0, 1), (1, 0), (2, 3), (3, 2)]).group(), [0, 1])
        self.assertEqual(Web(4, [(0, 1), (1, 2), (2, 3), (3, 1)]).group(), [1, 2, 3])
        self.assertEqual(Web(5, [(0, 4), (4, 2), (1, 0), (3, 1)]).group(), [0, 2, 4])

    def test_group_in_all_webs(self):
        for web in some_webs():
            short = [h for h in range(web.number) if len(reached(web, h, None)) < web.number]
            expected = reached(web, short[0], None) if short else None
            self.assertEqual(web.group(), expected)

    def test_told_lists_changed_behind(self):
        web = Web(3, [(0, 1), (1, 0), (2, 0)])
        for ask in [lambda: web.givers_of(0), lambda: web.takers_of(0), lambda: web.reach(2),
                    lambda: web.reach(0, 2), web.group]:
            told = ask()
            before = list(told)
            told.clear()
            self.assertEqual(ask(), before)
        self.assertEqual(web.passings, [(0, 1), (1, 0), (2, 0)])


def has_ring(web, leaders):
    """A ring is a walk without leaders whose last hand passes to its first."""
    return any((walk[-1], walk[0]) in web.passings and not set(walk) & set(leaders) for walk in walks(web))


class Rings(unittest.TestCase):
    """Point 6."""

    def hold_ring(self, web, leaders, ring):
        self.assertIsInstance(ring, list)
        self.assertNotEqual(ring, [])
        self.assertEqual(len(set(ring)), len(ring))
        self.assertEqual(set(ring) & set(leaders), set())
        for step in zip(ring, ring[1:] + ring[:1]):
            self.assertIn(step, web.passings)

    def test_a_ring(self):
        web = Web(3, TRIANGLE)
        self.hold_ring(web, [], web.ring([]))
        self.assertEqual(sorted(web.ring([])), [0, 1, 2])
        for leader in range(3):
            self.assertIsNone(web.ring([leader]))

    def test_a_ring_beside_a_leader(self):
        web = Web(5, [(0, 1), (1, 0), (1, 2), (2, 3), (3, 4), (4, 2), (4, 0)])
        self.hold_ring(web, [0], web.ring([0]))
        self.assertEqual(sorted(web.ring([0])), [2, 3, 4])
        self.assertEqual(sorted(web.ring([3])), [0, 1])
        self.assertIsNone(web.ring([0, 3]))

    def test_hands_that_only_lead_to_a_ring_or_from_it_are_not_in_it(self):
        web = Web(6, [(0, 3), (3, 4), (4, 3), (4, 1), (1, 2)])
        self.assertEqual(sorted(web.ring([])), [3, 4])

    def test_no_ring_without_passings_back(self):
        self.assertIsNone(Web(4, []).ring([]))
        self.assertIsNone(Web(4, [(0, 1), (0, 2), (1, 3), (2, 3)]).ring([]))

    def test_all_hands_leaders(self):
        for number in range(2, 7):
            self.assertIsNone(Web(number, all_passings(number)).ring(list(range(number))))

    def test_in_all_webs(self):
        for web, leaders in some_webs_with_leaders():
            ring = web.ring(leaders)
            if has_ring(web, leaders):
                self.hold_ring(web, leaders, ring)
            else:
                self.assertIsNone(ring)

    def test_told_list_changed_behind_and_leaders_left_alone(self):
        web = Web(4, all_passings(4))
        leaders = [1]
        ring = web.ring(leaders)
        ring.clear()
        self.hold_ring(web, leaders, web.ring(leaders))
        self.assertEqual(leaders, [1])


class LayTurns(unittest.TestCase):
    """Point 7."""

    def test_a_ring_with_one_leader(self):
        web = Web(3, TRIANGLE)
        self.assertEqual(web.lay_turns([0]), [1, 2, 3])
        self.assertEqual(web.lay_turns([1]), [3, 1, 2])
        self.assertEqual(web.lay_turns([0, 1]), [1, 1, 2])

    def test_the_greatest_of_those_that_pass_counts(self):
        web = Web(5, [(0, 1), (0, 4), (1, 2), (2, 3), (3, 4), (4, 0)])
        self.assertEqual(web.lay_turns([0]), [1, 2, 3, 4, 5])
        self.assertEqual(web.lay_turns([0, 3]), [1, 2, 3, 1, 2])

    def test_hands_to_which_no_passing_leads(self):
        self.assertEqual(Web(4, []).lay_turns([]), [1, 1, 1, 1])
        self.assertEqual(Web(4, [(3, 2), (2, 1)]).lay_turns([]), [1, 3, 2, 1])
        self.assertEqual(Web(4, [(3, 2), (2, 1)]).lay_turns([1]), [1, 1, 2, 1])

    def test_none_where_a_ring_has_no_leader(self):
        self.assertIsNone(Web(3, TRIANGLE).lay_turns([]))
        self.assertIsNone(Web(4, [(0, 1), (1, 2), (2, 1), (1, 0)]).lay_turns([0]))
        self.assertIsNone(Web(6, all_passings(6)).lay_turns([0, 1, 2, 3]))

    def test_all_leaders(self):
        for number in range(2, 7):
            web = Web(number, all_passings(number))
            self.assertEqual(web.lay_turns(list(range(number))), [1] * number)
            self.assertEqual(web.lay_turns(list(range(1, number))), [2] + [1] * (number - 1))

    def test_in_all_webs(self):
        for web, leaders in some_webs_with_leaders():
            turns = web.lay_turns(leaders)
            if has_ring(web, leaders):
                self.assertIsNone(turns)
                continue
            self.assertEqual(len(turns), web.number)
            # Without a ring these equations have one solution alone.
            for h, turn in enumerate(turns):
                ahead = [turns[giver] for giver, taker in web.passings if taker == h]
                self.assertEqual(turn, 1 if h in leaders or not ahead else 1 + max(ahead))

    def test_told_list_changed_behind_and_leaders_left_alone(self):
        web = Web(3, TRIANGLE)
        leaders = [2]
        web.lay_turns(leaders).clear()
        self.assertEqual(web.lay_turns(leaders), [2, 3, 1])
        self.assertEqual(leaders, [2])


if __name__ == "__main__":
    unittest.main()
