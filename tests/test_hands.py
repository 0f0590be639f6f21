import unittest

from helper import (PlainKeeper, Whim, all_passings, even_plan, ledger_with, moved_to, play, some_free, some_plans,
                    span_plans, told_by)
from wordswap.hands import Free, Hand, Keeper
from wordswap.ledgers import Ledger
from wordswap.plans import Plan
from wordswap.webs import Web

TRIANGLE = Web(3, [(0, 1), (1, 2), (2, 0)])
RING = even_plan(TRIANGLE, [0], 3)
WHOLE = Web(4, all_passings(4))


def deeds_by_turn(plan, me, rows, turns):
    """What a keeper tells, turn by turn, where all others are free and do the rows' deeds.

    The ledger takes all that is told and all of the rows, or this fails.
    """
    ledger = Ledger(plan, [h for h in range(plan.web.number) if h != me])
    keeper = Keeper(me)
    told = []
    for turn in range(1, turns + 1):
        told.append(keeper.deeds(moved_to(ledger, turn)))
        for deed in told[-1] + [deed for when, deed in rows if when == turn]:
            ledger.take(deed)
    return told


def lays(*passings):
    return [("lay", passing) for passing in passings]


def lays_in(turn, *passings):
    return [(turn, ("lay", passing)) for passing in passings]


def says(chain, *passings):
    return [("say", passing, chain) for passing in passings]


class Base(unittest.TestCase):
    """Point 16."""

    def test_does_nothing(self):
        hand = Hand()
        ledger = Ledger(RING)
        for turn in range(1, 8):
            self.assertEqual(hand.deeds(moved_to(ledger, turn)), [])

    def test_the_list_is_a_new_one(self):
        hand = Hand()
        hand.deeds(Ledger(RING)).append(("lay", (0, 1)))
        self.assertEqual(hand.deeds(Ledger(RING)), [])

    def test_all_are_hands(self):
        for hand in [Free([]), Free(lambda ledger: []), Keeper(0)]:
            self.assertIsInstance(hand, Hand)
            self.assertIsInstance(hand.deeds(Ledger(RING)), list)


class FreeOfRows(unittest.TestCase):
    """Point 16."""

    ROWS = [(3, ("lay", (2, 0))), (1, ("lay", (1, 2))), (3, ("say", (2, 0), (0,))), (1, ("lay", (0, 1))),
            (3, ("lay", (2, 0))), (5, ("nothing",))]

    def asked(self, hand):
        ledger = Ledger(RING)
        return [hand.deeds(moved_to(ledger, turn)) for turn in range(1, 7)]

    def test_those_of_the_turn_in_the_lists_order(self):
        self.assertEqual(self.asked(Free(list(self.ROWS))), [
            [("lay", (1, 2)), ("lay", (0, 1))], [],
            [("lay", (2, 0)), ("say", (2, 0), (0,)), ("lay", (2, 0))], [], [("nothing",)], []])

    def test_no_rows(self):
        self.assertEqual(self.asked(Free([])), [[]] * 6)

    def test_rows_of_turns_that_do_not_come(self):
        self.assertEqual(self.asked(Free([(0, ("lay", (0, 1))), (-1, ("lay", (0, 1))), (7, ("lay", (0, 1)))])), [[]] * 6)

    def test_rows_put_in_or_taken_out_behind(self):
        rows = list(self.ROWS)
        hand = Free(rows)
        rows.insert(0, (1, ("lay", (2, 0))))
        rows.append((2, ("lay", (2, 0))))
        rows.remove((5, ("nothing",)))
        self.assertEqual(self.asked(hand), self.asked(Free(list(self.ROWS))))

    def test_rows_are_left_alone(self):
        rows = list(self.ROWS)
        self.asked(Free(rows))
        self.assertEqual(rows, self.ROWS)

    def test_the_list_is_a_new_one(self):
        rows = list(self.ROWS)
        hand = Free(rows)
        hand.deeds(Ledger(RING)).clear()
        self.assertEqual(hand.deeds(Ledger(RING)), [("lay", (1, 2)), ("lay", (0, 1))])
        self.assertEqual(rows, self.ROWS)

    def test_asking_changes_no_ledger(self):
        ledger = Ledger(RING)
        before = told_by(ledger)
        Free(list(self.ROWS)).deeds(ledger)
        self.assertEqual(told_by(ledger), before)


class FreeOfAFunction(unittest.TestCase):
    """Point 16."""

    def test_it_is_handed_the_ledger_in_each_turn(self):
        handed = []

        def does(ledger):
            handed.append((ledger, ledger.turn()))
            return [("lay", (0, ledger.turn()))]

        ledger, hand = Ledger(RING), Free(does)
        told = [hand.deeds(moved_to(ledger, turn)) for turn in [1, 2, 3]]
        self.assertEqual(told, [[("lay", (0, 1))], [("lay", (0, 2))], [("lay", (0, 3))]])
        self.assertEqual(handed, [(ledger, 1), (ledger, 2), (ledger, 3)])

    def test_it_sees_what_stands(self):
        hand = Free(lambda ledger: [("say", passing, (0,)) for passing in ledger.laid()])
        self.assertEqual(hand.deeds(Ledger(RING)), [])
        self.assertEqual(hand.deeds(ledger_with(RING, lays_in(1, (2, 0)), 2)), [("say", (2, 0), (0,))])

    def test_the_list_is_a_new_one(self):
        own = [("lay", (0, 1)), ("lay", (1, 2))]
        hand = Free(lambda ledger: own)
        told = hand.deeds(Ledger(RING))
        told.reverse()
        told.pop()
        self.assertEqual(own, [("lay", (0, 1)), ("lay", (1, 2))])
        self.assertEqual(hand.deeds(Ledger(RING)), own)

    def test_asking_changes_no_ledger(self):
        ledger = ledger_with(RING, lays_in(1, (2, 0)), 2)
        before = told_by(ledger)
        Free(lambda seen: [("say", passing, (0,)) for passing in seen.laid()]).deeds(ledger)
        self.assertEqual(told_by(ledger), before)


class KeeperLays(unittest.TestCase):
    """Point 17. The leader of WEB is 1."""

    WEB = Web(5, [(1, 4), (1, 0), (1, 2), (0, 3), (2, 3), (3, 4), (3, 1)])
    PLAN = even_plan(WEB, [1], 20)

    def test_a_leader_in_turn_one_and_sorted(self):
        told = deeds_by_turn(self.PLAN, 1, [], 9)
        self.assertEqual(told, [lays((1, 0), (1, 2), (1, 4))] + [[]] * 8)

    def test_a_leader_does_not_wait_and_does_not_lay_again(self):
        told = deeds_by_turn(self.PLAN, 1, lays_in(4, (3, 1)), 9)
        self.assertEqual(told, [lays((1, 0), (1, 2), (1, 4)), [], [], [], says((1,), (3, 1)), [], [], [], []])

    def test_another_one_in_the_turn_behind_the_last_lay_to_it(self):
        for first, second in [(1, 1), (1, 2), (2, 1), (1, 5), (5, 3), (6, 6)]:
            rows = lays_in(first, (0, 3)) + lays_in(second, (2, 3))
            told = deeds_by_turn(self.PLAN, 3, rows, 9)
            ready = max(first, second) + 1
            self.assertEqual(told, [lays((3, 1), (3, 4)) if turn == ready else [] for turn in range(1, 10)])

    def test_not_before_all_boxes_to_it_are_laid(self):
        self.assertEqual(deeds_by_turn(self.PLAN, 3, lays_in(1, (0, 3)), 9), [[]] * 9)
        self.assertEqual(deeds_by_turn(self.PLAN, 3, [], 9), [[]] * 9)
        self.assertEqual(deeds_by_turn(self.PLAN, 3, lays_in(1, (1, 0), (1, 2), (1, 4)), 9), [[]] * 9)

    def test_limits_are_not_looked_at(self):
        told = deeds_by_turn(even_plan(self.WEB, [1], 0), 3, lays_in(7, (0, 3), (2, 3)), 9)
        self.assertEqual(told, [[]] * 7 + [lays((3, 1), (3, 4)), []])

    def test_without_own_passings(self):
        self.assertEqual(deeds_by_turn(self.PLAN, 4, lays_in(1, (1, 4), (3, 4)), 5), [[]] * 5)

    def test_in_turn_one_where_no_passing_leads_to_it(self):
        plan = even_plan(Web(4, [(0, 2), (0, 1), (3, 0), (1, 2)]), [2], 9)
        self.assertEqual(deeds_by_turn(plan, 3, [], 5), [lays((3, 0))] + [[]] * 4)
        plan = even_plan(Web(3, [(0, 2), (0, 1), (1, 2)]), [2], 9)
        self.assertEqual(deeds_by_turn(plan, 0, [], 5), [lays((0, 1), (0, 2))] + [[]] * 4)


class KeeperSaysItsOwnWord(unittest.TestCase):
    """Point 18. Hand 1 leads; 0, 2 and 3 pass to it."""

    WEB = Web(4, [(3, 1), (0, 1), (2, 1), (1, 0)])
    BOXES = [(0, 1), (2, 1), (3, 1)]

    def plan(self, *limits, leaders=(1,)):
        return Plan(self.WEB, list(leaders), {**dict(zip(self.BOXES, limits)), (1, 0): 0})

    def test_in_the_first_turn_in_which_all_are_laid(self):
        rows = lays_in(1, (3, 1)) + lays_in(2, (0, 1)) + lays_in(4, (2, 1))
        told = deeds_by_turn(self.plan(4, 4, 4), 1, rows, 9)
        self.assertEqual(told, [lays((1, 0)), [], [], [], says((1,), *self.BOXES), [], [], [], []])

    def test_behind_the_lays_of_its_turn(self):
        plan = even_plan(Web(3, [(0, 1), (1, 0), (1, 2)]), [1], 9)
        self.assertEqual(deeds_by_turn(plan, 1, lays_in(1, (0, 1)), 2), [lays((1, 0), (1, 2)), says((1,), (0, 1))])

    def test_nothing_before_all_boxes_are_laid(self):
        for missing in self.BOXES:
            rows = lays_in(1, *[box for box in self.BOXES if box != missing])
            self.assertEqual(deeds_by_turn(self.plan(9, 9, 9), 1, rows, 9), [lays((1, 0))] + [[]] * 8)

    def test_the_last_turn_in_which_it_says_it(self):
        rows = lays_in(1, (0, 1), (2, 1)) + lays_in(5, (3, 1))
        for limits in [(5, 5, 5), (5, 50, 7), (9, 5, 6), (99, 99, 5)]:
            told = deeds_by_turn(self.plan(*limits), 1, rows, 12)
            self.assertEqual(told, [lays((1, 0))] + [[]] * 4 + [says((1,), *self.BOXES)] + [[]] * 6)

    def test_one_limit_too_small(self):
        rows = lays_in(1, (0, 1), (2, 1)) + lays_in(5, (3, 1))
        for limits in [(4, 5, 5), (50, 4, 50), (5, 9, 4), (0, 50, 50), (4, 4, 4)]:
            told = deeds_by_turn(self.plan(*limits), 1, rows, 12)
            self.assertEqual(told, [lays((1, 0))] + [[]] * 11)

    def test_limits_of_its_own_passings_are_not_looked_at(self):
        plan = Plan(Web(2, [(0, 1), (1, 0)]), [1], {(0, 1): 3, (1, 0): 0})
        self.assertEqual(deeds_by_turn(plan, 1, lays_in(3, (0, 1)), 4)[3], says((1,), (0, 1)))

    def test_no_leader_says_no_word_of_its_own(self):
        told = deeds_by_turn(self.plan(9, 9, 9, leaders=[0]), 1, lays_in(1, *self.BOXES), 9)
        self.assertEqual(told, [[], lays((1, 0))] + [[]] * 7)

    def test_nothing_where_no_passing_leads_to_it(self):
        plan = even_plan(Web(3, [(0, 1), (0, 2), (2, 1)]), [0, 1], 9)
        rows = [(2, ("say", (0, 1), (1,)))]
        self.assertEqual(deeds_by_turn(plan, 0, rows, 9), [lays((0, 1), (0, 2))] + [[]] * 8)


class KeeperSaysWordsOn(unittest.TestCase):
    """Point 19. Mostly hand 0 of a web of four in which each passes to each."""

    TO = [(1, 0), (2, 0), (3, 0)]
    LAID = lays_in(1, (1, 0), (2, 0), (3, 0))

    def told(self, leaders, rows, limit=30, me=0):
        """Its says alone, from turn 1 on; it lays its boxes in turn 2 if not in turn 1."""
        told = deeds_by_turn(even_plan(WHOLE, leaders, limit), me, rows, 9)
        return [[deed for deed in deeds if deed[0] == "say"] for deeds in told]

    def in_turn(self, turn, deeds):
        return [deeds if turn == when else [] for when in range(1, 10)]

    def test_in_the_turn_behind(self):
        for turn in [3, 5]:
            told = self.told([3], self.LAID + [(turn, ("say", (0, 1), (1, 2, 3)))])
            self.assertEqual(told, self.in_turn(turn + 1, says((0, 1, 2, 3), *self.TO)))

    def test_said_once(self):
        rows = [(3, ("say", (0, 1), (1, 2, 3))), (4, ("say", (0, 3), (3,))), (5, ("say", (0, 1), (1, 2, 3))),
                (5, ("say", (0, 1), (1, 3))), (6, ("say", (0, 2), (2, 3)))]
        self.assertEqual(self.told([3], self.LAID + rows), self.in_turn(4, says((0, 1, 2, 3), *self.TO)))

    def test_of_several_chains_the_shortest(self):
        rows = [(3, ("say", (0, 1), (1, 2, 3))), (3, ("say", (0, 2), (2, 3))), (3, ("say", (0, 2), (2, 1, 3)))]
        self.assertEqual(self.told([3], self.LAID + rows), self.in_turn(4, says((0, 2, 3), *self.TO)))
        rows = rows + [(3, ("say", (0, 3), (3,)))]
        self.assertEqual(self.told([3], self.LAID + rows), self.in_turn(4, says((0, 3), *self.TO)))

    def test_of_the_shortest_the_least(self):
        rows = [(3, ("say", (0, 2), (2, 3))), (3, ("say", (0, 1), (1, 3))), (3, ("say", (0, 1), (1, 2, 3)))]
        self.assertEqual(self.told([3], self.LAID + rows), self.in_turn(4, says((0, 1, 3), *self.TO)))
        rows = [(3, ("say", (0, 2), (2, 1, 3))), (3, ("say", (0, 1), (1, 2, 3)))]
        self.assertEqual(self.told([3], self.LAID + rows), self.in_turn(4, says((0, 1, 2, 3), *self.TO)))

    def test_chains_on_other_boxes_are_not_looked_at(self):
        rows = lays_in(1, (1, 2), (2, 3)) + [(3, ("say", (1, 2), (2, 3))), (3, ("say", (2, 3), (3,)))]
        self.assertEqual(self.told([3], self.LAID + rows), [[]] * 9)
        rows = rows + [(5, ("say", (0, 1), (1, 2, 3)))]
        self.assertEqual(self.told([3], self.LAID + rows), self.in_turn(6, says((0, 1, 2, 3), *self.TO)))

    def test_chains_on_boxes_to_it_are_not_looked_at(self):
        # In a ledger in which 0 counts as free another one may say for it.
        rows = self.LAID + [(2, ("say", (1, 0), (0, 1, 3))), (2, ("say", (2, 0), (0, 3)))]
        ledger = ledger_with(even_plan(WHOLE, [3], 30), rows, 3, [0, 1, 2, 3])
        self.assertEqual(Keeper(0).deeds(ledger), [])

    def test_a_leader_waits_until_all_boxes_to_it_are_laid(self):
        rows = lays_in(1, (1, 0), (2, 0)) + [(2, ("say", (0, 1), (1, 2, 3))), (4, ("say", (0, 2), (2, 3)))]
        told = self.told([0, 3], rows + lays_in(5, (3, 0)) + [(6, ("say", (0, 3), (3,)))])
        self.assertEqual(told, self.in_turn(6, says((0,), *self.TO) + says((0, 2, 3), *self.TO)))
        self.assertEqual(self.told([0, 3], rows), [[]] * 9)

    def test_words_said_on_where_its_own_is_not(self):
        rows = lays_in(1, (1, 0), (2, 0)) + lays_in(5, (3, 0)) + [(2, ("say", (0, 1), (1, 2, 3)))]
        self.assertEqual(self.told([0, 3], rows, 4), self.in_turn(6, says((0, 1, 2, 3), *self.TO)))

    def test_chains_with_its_own_name_are_passed_over(self):
        rows = self.LAID + [(3, ("say", (0, 3), (3,))), (5, ("say", (0, 1), (1, 0, 3))), (6, ("say", (0, 2), (2, 0, 3)))]
        self.assertEqual(self.told([3], rows), self.in_turn(4, says((0, 3), *self.TO)))

    def test_a_chain_with_its_own_name_is_no_first_one(self):
        # In a ledger in which 0 counts as free its name may stand in chains
        # that it did not say.
        rows = self.LAID + lays_in(2, (0, 1), (0, 2), (0, 3)) + [(3, ("say", (0, 1), (1, 0, 3)))]
        ledger = ledger_with(even_plan(WHOLE, [3], 30), rows, 4, [0, 1, 2, 3])
        keeper = Keeper(0)
        self.assertEqual(keeper.deeds(ledger), [])
        ledger.take(("say", (0, 2), (2, 1, 3)))
        self.assertEqual(keeper.deeds(moved_to(ledger, 5)), says((0, 2, 1, 3), *self.TO))

    def test_boxes_on_which_it_is_late_are_left_out(self):
        for turn, boxes in [(5, self.TO), (6, self.TO), (7, self.TO[1:]), (8, self.TO[2:])]:
            plan = Plan(WHOLE, [3], {**dict.fromkeys(WHOLE.passings, 30), (1, 0): 3, (2, 0): 4, (3, 0): 5})
            told = deeds_by_turn(plan, 0, self.LAID + [(turn - 1, ("say", (0, 1), (1, 3)))], 9)
            self.assertEqual(told[turn - 1], says((0, 1, 3), *boxes))
            self.assertEqual([deeds for deeds in told[2:] if deeds], [says((0, 1, 3), *boxes)])

    def test_the_shortest_is_said_though_a_longer_one_is_in_time(self):
        plan = Plan(WHOLE, [3], {**dict.fromkeys(WHOLE.passings, 30), (1, 0): 4, (2, 0): 4, (3, 0): 5})
        rows = self.LAID + [(6, ("say", (0, 1), (1, 3))), (6, ("say", (0, 2), (2, 1, 3)))]
        told = deeds_by_turn(plan, 0, rows, 9)
        self.assertEqual(told[6], says((0, 1, 3), (1, 0), (2, 0), (3, 0)))
        plan = Plan(WHOLE, [3], {**dict.fromkeys(WHOLE.passings, 30), (1, 0): 3, (2, 0): 3, (3, 0): 4})
        self.assertEqual(deeds_by_turn(plan, 0, rows, 9)[6], says((0, 1, 3), (3, 0)))

    def test_a_word_late_on_each_box_counts_as_said(self):
        plan = Plan(WHOLE, [3], {**dict.fromkeys(WHOLE.passings, 30), (1, 0): 4, (2, 0): 4, (3, 0): 4})
        late = [(6, ("say", (0, 3), (3,)))]
        longer = [(7, ("say", (0, 1), (1, 2, 3)))]
        self.assertEqual(deeds_by_turn(plan, 0, self.LAID + late + longer, 9)[2:], [[]] * 7)
        self.assertEqual(deeds_by_turn(plan, 0, self.LAID + longer, 9)[7], says((0, 1, 2, 3), *self.TO))

    def test_several_words_in_the_order_of_their_leaders(self):
        rows = self.LAID + [(3, ("say", (0, 3), (3,))), (3, ("say", (0, 3), (3, 2))), (3, ("say", (0, 2), (2, 3, 1)))]
        expected = says((0, 2, 3, 1), *self.TO) + says((0, 3, 2), *self.TO) + says((0, 3), *self.TO)
        self.assertEqual(self.told([1, 2, 3], rows), self.in_turn(4, expected))

    def test_its_own_word_among_them(self):
        boxes = [(0, 2), (1, 2), (3, 2)]
        rows = lays_in(3, *boxes) + [(2, ("say", (2, 3), (3,))), (3, ("say", (2, 3), (3, 1, 0)))]
        expected = says((2, 3, 1, 0), *boxes) + says((2,), *boxes) + says((2, 3), *boxes)
        self.assertEqual(self.told([0, 2, 3], rows, me=2), self.in_turn(4, expected))

    def test_words_that_come_in_turns_of_their_own(self):
        rows = self.LAID + [(3, ("say", (0, 3), (3,))), (5, ("say", (0, 3), (3, 1)))]
        told = self.told([1, 3], rows)
        self.assertEqual(told[3], says((0, 3), *self.TO))
        self.assertEqual(told[5], says((0, 3, 1), *self.TO))
        self.assertEqual([deeds for deeds in told if deeds], [told[3], told[5]])

    def test_behind_the_lays(self):
        # Not seen of a keeper in a run, since its boxes are laid by itself
        # alone: so the ledger is handed its lays ahead of its own turn.
        web = Web(3, [(0, 1), (0, 2), (1, 0), (2, 1)])
        rows = lays_in(1, (0, 1), (0, 2)) + lays_in(3, (1, 0)) + [(2, ("say", (0, 1), (1,)))]
        ledger = ledger_with(even_plan(web, [1], 9), rows, 4)
        self.assertEqual(Keeper(0).deeds(ledger), lays((0, 1), (0, 2)) + says((0, 1), (1, 0)))

    def test_deeds_of_the_turn_itself_are_not_seen(self):
        plan = even_plan(TRIANGLE, [0], 9)
        ledger = ledger_with(plan, lays_in(1, (0, 1)), 1)
        self.assertEqual(Keeper(1).deeds(ledger), [])
        rows = lays_in(1, *TRIANGLE.passings) + [(2, ("say", (2, 0), (0,)))]
        self.assertEqual(Keeper(2).deeds(ledger_with(plan, rows, 2)), lays((2, 0)))
        self.assertEqual(Keeper(2).deeds(ledger_with(plan, rows, 3)), says((2, 0), (1, 2)))
        rows = self.LAID + lays_in(1, (0, 1), (0, 2)) + [(2, ("say", (0, 2), (2, 1, 3)))]
        ledger = ledger_with(even_plan(WHOLE, [3], 30), rows, 3, [1, 2, 3])
        ledger.take(("say", (0, 1), (1, 3)))
        self.assertEqual(Keeper(0).deeds(ledger), says((0, 2, 1, 3), *self.TO))


class KeepersTogether(unittest.TestCase):
    """Points 17 to 19 in runs."""

    def test_a_ring(self):
        ledger = Ledger(RING)
        self.assertEqual(play(ledger, {h: Keeper(h) for h in range(3)}, RING.last_turn()), [])
        self.assertEqual(ledger.opened(), TRIANGLE.passings)
        self.assertEqual(ledger.said((2, 0)), [(4, (0,))])
        self.assertEqual(ledger.said((1, 2)), [(5, (2, 0))])
        self.assertEqual(ledger.said((0, 1)), [(6, (1, 2, 0))])

    def test_asking_changes_no_ledger_and_tells_a_new_list(self):
        rows = lays_in(1, *TRIANGLE.passings) + [(2, ("say", (2, 0), (0,)))]
        ledger = ledger_with(RING, rows, 3)
        before = told_by(ledger)
        Keeper(2).deeds(ledger).clear()
        self.assertEqual(Keeper(2).deeds(ledger), says((2, 0), (1, 2)))
        self.assertEqual(told_by(ledger), before)

    def test_two_runs_over_one_web(self):
        first, second = Ledger(RING), Ledger(even_plan(TRIANGLE, [1], 3))
        one, other = {h: Keeper(h) for h in range(3)}, {h: Keeper(h) for h in range(3)}
        for turn in range(1, 8):
            for ledger, hands in [(first, one), (second, other)]:
                told = [deed for h in range(3) for deed in hands[h].deeds(moved_to(ledger, turn))]
                for deed in told:
                    ledger.take(deed)
        alone = Ledger(RING)
        play(alone, {h: Keeper(h) for h in range(3)}, 7)
        self.assertEqual(told_by(first), told_by(alone))
        self.assertEqual(second.said((0, 1)), [(4, (1,))])
        self.assertEqual(second.said((1, 2)), [(6, (2, 0, 1))])

    def test_all_is_done_where_all_keep_to_the_span(self):
        for plan in span_plans()[::7]:
            ledger = Ledger(plan)
            self.assertEqual(play(ledger, {h: Keeper(h) for h in range(plan.web.number)}, plan.last_turn()), [])
            self.assertEqual(ledger.opened(), plan.web.passings)

    def test_against_plain_keepers_beside_free_hands(self):
        self.said = self.laid = 0
        for seed, plan in enumerate(some_plans()[::4] + span_plans()[::9]):
            free = some_free(plan, seed)
            hands = {h: Whim(h, seed) if h in free else Pair(self, h) for h in range(plan.web.number)}
            refused = play(Ledger(plan, free), hands, min(plan.last_turn(), 12))
            self.assertEqual([h for h, deed in refused if h not in free], [])
        self.assertGreater(self.laid, 500)
        self.assertGreater(self.said, 500)


class Pair:
    """A keeper beside a plain one: both must tell the same."""

    def __init__(self, test, me):
        self.test, self.keeper, self.plain = test, Keeper(me), PlainKeeper(me)

    def deeds(self, ledger):
        deeds = self.keeper.deeds(ledger)
        self.test.assertEqual(deeds, self.plain.deeds(ledger))
        self.test.laid += len([deed for deed in deeds if deed[0] == "lay"])
        self.test.said += len([deed for deed in deeds if deed[0] == "say" and len(deed[2]) > 1])
        return deeds


if __name__ == "__main__":
    unittest.main()
