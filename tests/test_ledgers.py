import unittest
from itertools import permutations
from random import Random

from helper import (PlainLedger, all_deeds, all_leaders, all_passings, by_length, even_plan, ledger_with, moved_to,
                    refusal_of, some_free, some_plans, told_by)
from wordswap.errors import Laid, Late, NoDeed, NotLaid, Unknown
from wordswap.ledgers import Ledger
from wordswap.plans import Plan
from wordswap.webs import Web

TRIANGLE = Web(3, [(0, 1), (1, 2), (2, 0)])
RING = Plan(TRIANGLE, [0], {(0, 1): 1, (1, 2): 5, (2, 0): 2})
LONG = even_plan(Web(5, [(0, 1), (1, 2), (2, 3), (3, 4), (4, 0)]), [4], 50)
WHOLE = Web(4, all_passings(4))
# 1 takes from two hands, and two hands lead.
ACROSS = Plan(Web(4, [(0, 1), (2, 1), (1, 3), (3, 0), (3, 2)]), [0, 3],
              {(0, 1): 9, (2, 1): 4, (1, 3): 9, (3, 0): 9, (3, 2): 9})


class Refusing(unittest.TestCase):
    """Points 11 and 12."""

    def refused(self, ledger, deed, refusal):
        before = told_by(ledger)
        with self.assertRaises(refusal) as taken:
            ledger.take(deed)
        self.assertIs(type(taken.exception), refusal)
        self.assertEqual(taken.exception.at, deed)
        self.assertEqual(told_by(ledger), before)

    def test_other_words_and_forms(self):
        for deed in [("open", (0, 1)), ("Lay", (0, 1)), ("", (0, 1)), ("lays", (0, 1)), (0, (0, 1)), (None, (0, 1)),
                     ("tell", (0, 1), (1, 2, 0)), ("SAY", (0, 1), (1, 2, 0)), ((0, 1), "lay"), ((0, 1), (1, 2, 0)),
                     ["lay", (0, 1)], "lay", None, 1]:
            for turn in [1, 3]:
                self.refused(ledger_with(RING, [(1, ("lay", (1, 2)))], turn), deed, NoDeed)

    def test_too_few_or_too_many_parts(self):
        for deed in [(), ("lay",), ("say",), ("say", (0, 1)), ("lay", (0, 1), (1, 2, 0)), ("lay", (0, 1), None),
                     ("lay", 0, 1), ("say", (0, 1), (1, 2, 0), 0), ("say", (0, 1), 1, 2, 0), ("lay", (0, 1), 1, 2)]:
            self.refused(Ledger(RING), deed, NoDeed)

    def test_pairs_that_are_no_passings(self):
        for pair in [(1, 0), (0, 2), (0, 0), (0, 3), (-1, 0), (0,), (0, 1, 2), (), 0, None, "01", [0, 1], (False, 1)]:
            self.refused(Ledger(RING), ("lay", pair), NoDeed)
            self.refused(Ledger(RING, [0, 1, 2]), ("say", pair, (1, 2, 0)), NoDeed)
            self.refused(Ledger(RING, [0, 1, 2]), ("say", pair, (0,)), NoDeed)

    def test_what_is_no_chain(self):
        for chain in [(), (1,), (1, 0), (1, 2), (1, 2, 0, 1), (1, 2, 0, 1, 2, 0), (1, 2, 3), (1, 9, 0), (1, -1, 0),
                      [1, 2, 0], "120", None, 1, (True, 2, 0), (1, 2, False), (1, [2], 0), ([1], 2, 0)]:
            ledger = ledger_with(RING, [(1, ("lay", (0, 1)))], 2, [0, 1, 2])
            self.refused(ledger, ("say", (0, 1), chain), NoDeed)

    def test_a_chain_that_begins_with_another_hand_than_the_taker(self):
        lays = [(1, ("lay", passing)) for passing in TRIANGLE.passings]
        for passing, chain in [((0, 1), (2, 0)), ((0, 1), (0,)), ((1, 2), (1, 2, 0)), ((2, 0), (2, 0))]:
            self.refused(ledger_with(RING, lays, 2, [0, 1, 2]), ("say", passing, chain), NoDeed)

    def test_laid(self):
        ledger = Ledger(RING)
        ledger.take(("lay", (0, 1)))
        self.refused(ledger, ("lay", (0, 1)), Laid)
        ledger.take(("lay", (2, 0)))
        ledger.move()
        self.refused(ledger, ("lay", (0, 1)), Laid)
        self.refused(moved_to(ledger, 40), ("lay", (2, 0)), Laid)
        ledger.take(("lay", (1, 2)))
        self.refused(ledger, ("lay", (1, 2)), Laid)

    def test_a_box_is_laid_in_any_turn_whatever_its_limit(self):
        ledger = moved_to(Ledger(even_plan(TRIANGLE, [0], 0)), 60)
        ledger.take(("lay", (1, 2)))
        self.assertEqual(ledger.laid(), [(1, 2)])

    def test_not_laid(self):
        ledger = Ledger(RING)
        self.refused(ledger, ("say", (2, 0), (0,)), NotLaid)
        ledger.take(("lay", (0, 1)))
        self.refused(ledger, ("say", (2, 0), (0,)), NotLaid)
        ledger.move()
        self.refused(ledger, ("say", (2, 0), (0,)), NotLaid)

    def test_said_in_the_turn_in_which_the_box_was_laid(self):
        for turn in [1, 2]:
            ledger = moved_to(Ledger(RING), turn)
            ledger.take(("lay", (2, 0)))
            self.refused(ledger, ("say", (2, 0), (0,)), NotLaid)
            ledger.move()
            ledger.take(("say", (2, 0), (0,)))
            self.assertEqual(ledger.said((2, 0)), [(turn + 1, (0,))])

    def test_the_last_turn_in_time_and_the_first_one_late(self):
        for limit in [1, 2, 7, 30]:
            plan = even_plan(WHOLE, [3], limit)
            for chain in [(3,), (1, 3), (1, 0, 3), (1, 0, 2, 3), (0, 2, 3)]:
                box = (2 if chain[0] == 3 else 3, chain[0])
                rows = [(1, ("lay", box))]
                last = limit + len(chain)
                ledger_with(plan, rows, last, [0, 1, 2, 3]).take(("say", box, chain))
                self.refused(ledger_with(plan, rows, last + 1, [0, 1, 2, 3]), ("say", box, chain), Late)
                self.refused(ledger_with(plan, rows, last + 9, [0, 1, 2, 3]), ("say", box, chain), Late)

    def test_a_limit_of_nought(self):
        plan = even_plan(WHOLE, [3], 0)
        rows = [(1, ("lay", (0, 3))), (1, ("lay", (3, 1)))]
        self.refused(ledger_with(plan, rows, 2), ("say", (0, 3), (3,)), Late)
        ledger_with(plan, rows, 2, [3]).take(("say", (3, 1), (1, 3)))

    def test_the_limit_of_the_box_counts(self):
        ledger = ledger_with(RING, [(1, ("lay", (0, 1))), (1, ("lay", (1, 2)))], 5, [0, 1, 2])
        self.refused(ledger, ("say", (0, 1), (1, 2, 0)), Late)
        ledger.take(("say", (1, 2), (2, 0)))

    def test_unknown(self):
        ledger = ledger_with(RING, [(1, ("lay", (1, 2)))], 2)
        self.refused(ledger, ("say", (1, 2), (2, 0)), Unknown)

    def test_no_deed_goes_ahead_of_all(self):
        ledger = ledger_with(RING, [(1, ("lay", (0, 1)))], 30)
        self.refused(ledger, ("lay", (0, 1), (1, 2, 0)), NoDeed)
        self.refused(ledger, ("say", (0, 1)), NoDeed)
        self.refused(ledger, ("say", (0, 1), (1, 0)), NoDeed)
        self.refused(ledger, ("say", (1, 2), (1, 2, 0)), NoDeed)
        self.refused(ledger, ("say", (2, 1), (1, 2, 0)), NoDeed)

    def test_not_laid_goes_ahead_of_late_and_unknown(self):
        self.refused(moved_to(Ledger(RING), 30), ("say", (2, 0), (0,)), NotLaid)
        self.refused(Ledger(RING), ("say", (1, 2), (2, 0)), NotLaid)
        self.refused(moved_to(Ledger(RING), 30), ("say", (1, 2), (2, 0)), NotLaid)
        ledger = ledger_with(RING, [(30, ("lay", (1, 2)))], 30)
        self.refused(ledger, ("say", (1, 2), (2, 0)), NotLaid)

    def test_late_goes_ahead_of_unknown(self):
        rows = [(1, ("lay", (1, 2)))]
        self.refused(ledger_with(RING, rows, 7), ("say", (1, 2), (2, 0)), Unknown)
        self.refused(ledger_with(RING, rows, 8), ("say", (1, 2), (2, 0)), Late)

    def test_taking_and_moving_give_back_nothing(self):
        ledger = Ledger(RING)
        self.assertIsNone(ledger.take(("lay", (2, 0))))
        self.assertIsNone(ledger.move())
        self.assertIsNone(ledger.take(("say", (2, 0), (0,))))

    def test_a_chain_said_again(self):
        ledger = ledger_with(RING, [(1, ("lay", (2, 0))), (2, ("say", (2, 0), (0,)))], 2)
        before = told_by(ledger)
        ledger.take(("say", (2, 0), (0,)))
        self.assertEqual(ledger.said((2, 0)), [(2, (0,)), (2, (0,))])
        ledger.move()
        ledger.take(("say", (2, 0), (0,)))
        self.assertEqual(ledger.said((2, 0)), [(2, (0,)), (2, (0,)), (3, (0,))])
        self.assertEqual((ledger.laid(), ledger.opened()), (before[1], before[2]))
        ledger.take(("lay", (1, 2)))
        moved_to(ledger, 4).take(("say", (1, 2), (2, 0)))

    def test_a_word_said_again_by_another_chain(self):
        plan = even_plan(Web(3, [(0, 1), (1, 0), (1, 2), (2, 0)]), [0], 9)
        rows = [(1, ("lay", (0, 1))), (2, ("say", (0, 1), (1, 2, 0))), (2, ("say", (0, 1), (1, 0)))]
        ledger = ledger_with(plan, rows, 2, [0, 2])
        self.assertEqual(ledger.said((0, 1)), [(2, (1, 2, 0)), (2, (1, 0))])
        self.assertEqual(ledger.opened(), [(0, 1)])

    def test_said_again_in_the_turn_behind_still_counts_from_the_first_turn(self):
        rows = [(1, ("lay", (2, 0))), (1, ("lay", (1, 2))), (2, ("say", (2, 0), (0,))), (3, ("say", (2, 0), (0,)))]
        ledger_with(RING, rows, 3).take(("say", (1, 2), (2, 0)))

    def test_against_plain_answers(self):
        taken = {}
        for seed, plan in enumerate(some_plans()[::3]):
            lot = Random(f"deeds {seed}")
            free = some_free(plan, seed)
            ledger, plain = Ledger(plan, free), PlainLedger(plan, free)
            deeds = all_deeds(plan) + [("lay", (0, 0)), ("say", (0, 1), ())]
            for turn in range(1, 8):
                for deed in lot.sample(deeds, min(len(deeds), 12)):
                    expected = plain.take(deed)
                    self.assertEqual(refusal_of(ledger, deed), expected)
                    taken[expected] = taken.get(expected, 0) + 1
                self.assertEqual(told_by(ledger)[:5], plain.told())
                ledger.move()
                plain.now += 1
        for kind in [None, NoDeed, Laid, NotLaid, Late, Unknown]:
            self.assertGreater(taken[kind], 100, kind)


class Saying(unittest.TestCase):
    """Point 13, on a ring of five whose leader is 4."""

    def laid(self, says, turn, free=None):
        rows = [(1, ("lay", passing)) for passing in LONG.web.passings]
        rows += [(when, ("say", ((chain[0] - 1) % 5, chain[0]), chain)) for when, chain in says]
        return ledger_with(LONG, rows, turn, free)

    def hold(self, ledger, chain, expected):
        self.assertEqual(chain in ledger.can_say(chain[0]), expected)
        deed = ("say", ((chain[0] - 1) % 5, chain[0]), chain)
        self.assertIs(refusal_of(ledger, deed), None if expected else Unknown)

    def test_no_free_hands(self):
        self.hold(self.laid([], 2), (4,), True)
        self.hold(self.laid([], 2), (3, 4), False)
        self.hold(self.laid([(2, (4,))], 3), (3, 4), True)
        self.hold(self.laid([(2, (4,))], 3), (2, 3, 4), False)
        said = [(2, (4,)), (3, (3, 4)), (4, (2, 3, 4)), (5, (1, 2, 3, 4))]
        self.hold(self.laid(said, 6), (0, 1, 2, 3, 4), True)
        self.hold(self.laid(said[:3], 6), (0, 1, 2, 3, 4), False)

    def test_said_in_this_turn_only(self):
        ledger = self.laid([(2, (4,))], 2)
        self.hold(ledger, (3, 4), False)
        ledger.move()
        self.hold(ledger, (3, 4), True)
        self.hold(ledger, (2, 3, 4), False)
        ledger.move()
        self.hold(ledger, (2, 3, 4), True)

    def test_all_free(self):
        for chain in [(4,), (3, 4), (2, 3, 4), (1, 2, 3, 4), (0, 1, 2, 3, 4)]:
            self.hold(self.laid([], 2, [0, 1, 2, 3, 4]), chain, True)

    def test_all_behind_the_first_free(self):
        self.hold(self.laid([], 2, [1, 2, 3, 4]), (0, 1, 2, 3, 4), True)
        self.hold(self.laid([], 2, [3, 4]), (2, 3, 4), True)
        self.hold(self.laid([], 2, [3, 4]), (1, 2, 3, 4), False)

    def test_only_the_first_hand_free(self):
        self.hold(self.laid([], 2, [0]), (0, 1, 2, 3, 4), False)
        self.hold(self.laid([(2, (4,))], 3, [2]), (2, 3, 4), False)
        self.hold(self.laid([], 2, [3]), (3, 4), False)

    def test_free_hands_first_one_behind_the_other(self):
        for says, expected in [([], False), ([(2, (4,))], False), ([(2, (4,)), (3, (3, 4))], True)]:
            self.hold(self.laid(says, 4, [1, 2]), (0, 1, 2, 3, 4), expected)
            self.hold(self.laid(says, 4, [0, 1, 2]), (0, 1, 2, 3, 4), expected)
            self.hold(self.laid(says, 4, [2]), (1, 2, 3, 4), expected)
        self.hold(self.laid([(2, (4,))], 3, [1, 2, 3]), (0, 1, 2, 3, 4), True)

    def test_what_is_left_said_in_this_turn_only(self):
        ledger = self.laid([(2, (4,)), (3, (3, 4))], 3, [1, 2])
        self.hold(ledger, (0, 1, 2, 3, 4), False)
        ledger.move()
        self.hold(ledger, (0, 1, 2, 3, 4), True)

    def test_a_free_hand_behind_a_keeper(self):
        says = [(2, (4,)), (3, (3, 4))]
        self.hold(self.laid(says, 4, [2]), (0, 1, 2, 3, 4), False)
        self.hold(self.laid(says + [(4, (1, 2, 3, 4))], 5, [2]), (0, 1, 2, 3, 4), True)
        self.hold(self.laid(says, 4, [1, 3]), (0, 1, 2, 3, 4), False)
        self.hold(self.laid(says + [(4, (2, 3, 4))], 5, [1, 3]), (0, 1, 2, 3, 4), True)
        self.hold(self.laid([], 2, [4]), (2, 3, 4), False)
        self.hold(self.laid([], 2, [4]), (3, 4), True)

    def test_said_on_another_box(self):
        lays = [(1, ("lay", passing)) for passing in ACROSS.web.passings]
        says = [(2, ("say", (1, 3), (3,))), (3, ("say", (2, 1), (1, 3)))]
        ledger = ledger_with(ACROSS, lays + says, 4)
        self.assertEqual(ledger.said((0, 1)), [])
        ledger.take(("say", (3, 0), (0, 1, 3)))
        ledger.take(("say", (3, 2), (2, 1, 3)))
        self.assertEqual(ledger.said((3, 0)), [(4, (0, 1, 3))])

    def test_just_so(self):
        plan = even_plan(Web(4, [(0, 1), (1, 2), (1, 3), (2, 3), (3, 0)]), [3], 50)
        rows = [(1, ("lay", passing)) for passing in plan.web.passings]
        rows += [(2, ("say", (1, 3), (3,))), (3, ("say", (0, 1), (1, 3)))]
        ledger = ledger_with(plan, rows, 9)
        self.assertIs(refusal_of(ledger, ("say", (3, 0), (0, 1, 2, 3))), Unknown)
        self.assertIsNone(refusal_of(ledger, ("say", (3, 0), (0, 1, 3))))


class Opening(unittest.TestCase):
    """Point 14."""

    def test_one_leader(self):
        rows = [(1, ("lay", passing)) for passing in TRIANGLE.passings]
        ledger = ledger_with(RING, rows, 2)
        self.assertEqual(ledger.opened(), [])
        ledger.take(("say", (2, 0), (0,)))
        self.assertEqual(ledger.opened(), [(2, 0)])
        ledger.move()
        ledger.take(("say", (1, 2), (2, 0)))
        self.assertEqual(ledger.opened(), [(1, 2), (2, 0)])
        ledger.move()
        ledger.take(("say", (0, 1), (1, 2, 0)))
        self.assertEqual(ledger.opened(), [(0, 1), (1, 2), (2, 0)])
        self.assertEqual(moved_to(ledger, 99).opened(), [(0, 1), (1, 2), (2, 0)])

    def test_several_leaders_in_whatever_order_by_whatever_chains(self):
        for leaders in all_leaders(4)[1:]:
            plan = even_plan(WHOLE, leaders, 9)
            for step, order in enumerate(permutations(leaders)):
                ledger = ledger_with(plan, [(1, ("lay", (2, 1)))], 2, [0, 1, 2, 3])
                for leader in order:
                    self.assertEqual(ledger.opened(), [])
                    ways = [chain for chain in ledger.can_say(1) if chain[-1] == leader]
                    ledger.take(("say", (2, 1), ways[step % len(ways)]))
                self.assertEqual(ledger.opened(), [(2, 1)])

    def test_one_word_by_many_chains_is_one_word(self):
        ledger = ledger_with(even_plan(WHOLE, [0, 3], 9), [(1, ("lay", (2, 1)))], 2, [0, 1, 2, 3])
        for chain in [(1, 0), (1, 2, 0), (1, 3, 0), (1, 3, 2, 0), (1, 0)]:
            ledger.take(("say", (2, 1), chain))
            self.assertEqual(ledger.opened(), [])
        moved_to(ledger, 5).take(("say", (2, 1), (1, 0, 2, 3)))
        self.assertEqual(ledger.opened(), [(2, 1)])

    def test_a_leader_on_the_way_is_not_its_word(self):
        ledger = ledger_with(even_plan(WHOLE, [0, 1, 3], 9), [(1, ("lay", (2, 1)))], 2, [0, 1, 2, 3])
        ledger.take(("say", (2, 1), (1, 0, 3)))
        self.assertEqual(ledger.opened(), [])

    def test_words_on_another_box_do_not_open(self):
        rows = [(1, ("lay", (2, 1))), (1, ("lay", (0, 1))), (2, ("say", (2, 1), (1, 3))), (2, ("say", (0, 1), (1, 0)))]
        ledger = ledger_with(even_plan(WHOLE, [0, 3], 9), rows, 2, [0, 1, 2, 3])
        self.assertEqual(ledger.opened(), [])
        ledger.take(("say", (0, 1), (1, 3)))
        self.assertEqual(ledger.opened(), [(0, 1)])


class Telling(unittest.TestCase):
    """Point 15, and what point 2 says of what is handed in and told."""

    def test_at_first(self):
        ledger = Ledger(RING)
        self.assertIs(ledger.plan, RING)
        self.assertEqual((ledger.turn(), ledger.laid(), ledger.opened()), (1, [], []))
        self.assertEqual([ledger.said(passing) for passing in TRIANGLE.passings], [[], [], []])
        self.assertEqual([ledger.can_say(h) for h in range(3)], [[(0,)], [], []])

    def test_turns(self):
        ledger = Ledger(RING)
        for turn in range(1, 30):
            self.assertEqual(ledger.turn(), turn)
            ledger.move()

    def test_laid_is_sorted_and_shows_this_turns_lays(self):
        ledger = Ledger(RING)
        for passing, laid in [((2, 0), [(2, 0)]), ((0, 1), [(0, 1), (2, 0)])]:
            ledger.take(("lay", passing))
            self.assertEqual(ledger.laid(), laid)
        ledger.move()
        self.assertEqual(ledger.laid(), [(0, 1), (2, 0)])
        ledger.take(("lay", (1, 2)))
        self.assertEqual(ledger.laid(), [(0, 1), (1, 2), (2, 0)])

    def test_opened_is_sorted_and_shows_this_turns_says(self):
        lays = [(1, ("lay", passing)) for passing in TRIANGLE.passings]
        ledger = ledger_with(RING, lays, 2, [0, 1, 2])
        for box, chain, opened in [((2, 0), (0,), [(2, 0)]), ((0, 1), (1, 2, 0), [(0, 1), (2, 0)]),
                                   ((1, 2), (2, 0), [(0, 1), (1, 2), (2, 0)])]:
            ledger.take(("say", box, chain))
            self.assertEqual(ledger.opened(), opened)

    def test_said_in_the_order_in_which_it_was_taken(self):
        ledger = ledger_with(even_plan(WHOLE, [0, 3], 9), [(1, ("lay", (2, 1)))], 2, [0, 1, 2, 3])
        rows = [(2, (1, 3)), (2, (1, 0)), (3, (1, 2, 0)), (3, (1, 0)), (5, (1, 3))]
        for at, (turn, chain) in enumerate(rows):
            moved_to(ledger, turn).take(("say", (2, 1), chain))
            self.assertEqual(ledger.said((2, 1)), rows[:at + 1])
            self.assertEqual(ledger.said((0, 1)), [])

    def test_can_say_is_sorted_by_length_then_as_tuples(self):
        ledger = Ledger(even_plan(WHOLE, [0, 3], 9), [0, 1, 2, 3])
        expected = [(1, 0), (1, 3), (1, 0, 3), (1, 2, 0), (1, 2, 3), (1, 3, 0),
                    (1, 0, 2, 3), (1, 2, 0, 3), (1, 2, 3, 0), (1, 3, 2, 0)]
        self.assertEqual(ledger.can_say(1), expected)
        self.assertEqual(by_length(expected), expected)

    def test_can_say_looks_at_neither_boxes_nor_limits(self):
        ledger = Ledger(even_plan(TRIANGLE, [0], 0), [0, 2])
        for turn in range(1, 20):
            self.assertEqual(ledger.can_say(0), [(0,)])
            self.assertEqual(ledger.can_say(1), [(1, 2, 0)])
            ledger.move()

    def test_can_say_where_no_passing_leads_to_the_hand(self):
        self.assertEqual(Ledger(Plan(Web(2, [(0, 1)]), [0], {(0, 1): 1})).can_say(0), [(0,)])
        self.assertEqual(Ledger(Plan(Web(2, [(0, 1)]), [1], {(0, 1): 1}), [1]).can_say(0), [(0, 1)])
        self.assertEqual(Ledger(Plan(Web(2, [(0, 1)]), [0], {(0, 1): 1}), [0, 1]).can_say(1), [])

    def test_can_say_shows_what_stood_behind_the_turn_ahead(self):
        ledger = ledger_with(RING, [(1, ("lay", (2, 0))), (2, ("say", (2, 0), (0,)))], 2)
        self.assertEqual(ledger.can_say(2), [])
        ledger.move()
        self.assertEqual(ledger.can_say(2), [(2, 0)])

    def test_free(self):
        for free in [None, []]:
            ledger = Ledger(RING, free)
            self.assertEqual(ledger.free, [])
            self.assertEqual(ledger.can_say(1), [])
        self.assertEqual(Ledger(RING).free, [])
        self.assertEqual(Ledger(RING, [0, 2]).free, [0, 2])
        self.assertIsInstance(Ledger(RING, [0, 2]).free, list)

    def test_free_changed_behind(self):
        free = [2]
        ledger = Ledger(RING, free)
        ledger.can_say(1)
        self.assertEqual(free, [2])
        free.insert(0, 0)
        self.assertEqual((ledger.free, ledger.can_say(1), ledger.can_say(2)), ([2], [], []))
        free.clear()
        self.assertEqual(ledger.free, [2])
        ledger = Ledger(RING, [0, 2])
        ledger.free.clear()
        self.assertEqual(ledger.can_say(1), [(1, 2, 0)])

    def test_the_plans_lists_changed_behind(self):
        leaders, limits = [0], {(0, 1): 1, (1, 2): 5, (2, 0): 2}
        plan = Plan(TRIANGLE, leaders, limits)
        ledger = ledger_with(plan, [(1, ("lay", (2, 0)))], 3)
        for changed in [leaders, plan.leaders]:
            changed.append(1)
        for changed in [limits, plan.limits]:
            changed[(2, 0)] = 0
        ledger.take(("say", (2, 0), (0,)))
        self.assertEqual(ledger.opened(), [(2, 0)])
        self.assertEqual(ledger.can_say(1), [])
        self.assertIs(refusal_of(ledger, ("say", (0, 1), (1,))), NoDeed)

    def test_told_lists_changed_behind(self):
        lays = [(1, ("lay", passing)) for passing in TRIANGLE.passings]
        ledger = ledger_with(RING, lays + [(2, ("say", (2, 0), (0,)))], 3)
        before = told_by(ledger)
        for ask in [ledger.laid, ledger.opened, lambda: ledger.said((2, 0)), lambda: ledger.said((0, 1)),
                    lambda: ledger.can_say(0), lambda: ledger.can_say(1)]:
            told = ask()
            told.append("more")
            told.reverse()
            self.assertEqual(told_by(ledger), before)
            self.assertIsNot(ask(), told)

    def test_a_list_told_ahead_does_not_follow(self):
        ledger = ledger_with(RING, [(1, ("lay", (2, 0)))], 2)
        laid, opened, said = ledger.laid(), ledger.opened(), ledger.said((2, 0))
        ledger.take(("say", (2, 0), (0,)))
        ledger.take(("lay", (0, 1)))
        self.assertEqual((laid, opened, said), ([(2, 0)], [], []))

    def test_asking_changes_nothing(self):
        ledger = ledger_with(RING, [(1, ("lay", (2, 0))), (2, ("say", (2, 0), (0,)))], 2)
        before = told_by(ledger)
        for times in range(3):
            self.assertEqual(told_by(ledger), before)

    def test_two_plans_over_one_web(self):
        one, other = Plan(TRIANGLE, [0], RING.limits), Plan(TRIANGLE, [1, 2], {(0, 1): 8, (1, 2): 8, (2, 0): 8})
        first, second = Ledger(one), Ledger(other, [1])
        fresh = told_by(second)
        moved_to(ledger_with(one, [(1, ("lay", (0, 1)))], 3), 5)
        first.take(("lay", (2, 0)))
        first.move()
        first.take(("say", (2, 0), (0,)))
        self.assertEqual(told_by(second), fresh)
        before = told_by(first)
        for passing in TRIANGLE.passings:
            second.take(("lay", passing))
        second.move()
        second.take(("say", (0, 1), (1,)))
        second.take(("say", (2, 0), (0, 1)))
        self.assertEqual(told_by(first), before)
        self.assertEqual(second.said((2, 0)), [(2, (0, 1))])
        self.assertEqual(first.said((2, 0)), [(2, (0,))])

    def test_two_ledgers_over_one_plan(self):
        first, second = Ledger(RING), Ledger(RING)
        first.take(("lay", (0, 1)))
        first.move()
        self.assertEqual(told_by(second), told_by(Ledger(RING)))

    def test_the_same_again(self):
        rows = [(1, ("lay", passing)) for passing in TRIANGLE.passings] + [(2, ("say", (2, 0), (0,)))]
        self.assertEqual(told_by(ledger_with(RING, rows, 3)), told_by(ledger_with(RING, rows, 3)))


if __name__ == "__main__":
    unittest.main()
