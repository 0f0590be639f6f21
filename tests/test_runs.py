import unittest
from itertools import product
from random import Random
from unittest.mock import patch

from helper import (PlainKeeper, Whim, all_deeds, all_passings, even_plan, ledger_with, moved_to, play, refusal_of,
                    some_free, some_plans, span_plans, told_by)
from wordswap.hands import Free, Hand, Keeper
from wordswap.ledgers import Ledger
from wordswap.plans import Plan
from wordswap.runs import Run, all_keep
from wordswap.webs import Web

TRIANGLE = Web(3, [(0, 1), (1, 2), (2, 0)])
RING = even_plan(TRIANGLE, [0], 3)
# On (0, 1) the word comes a turn too late, if all keep.
SHORT = Plan(TRIANGLE, [0], {(0, 1): 2, (1, 2): 3, (2, 0): 3})
PAIR = Web(2, [(0, 1), (1, 0)])
# What is of none of the two forms, or of none of the web's passings, or no chain of the taker.
NO_DEEDS = [None, True, 0, 7, "", "lay", "say", [], {}, (), ("lay",), ("say",), (0, 1), ("lay", None), ("lay", 0),
            ("lay", []), ("lay", ()), ("lay", (0,)), ("lay", [0, 1]), ("lay", (0, 0)), ("lay", (0, 2)),
            ("lay", (0, 3)), ("lay", (-1, 0)), ("lay", (0, 1, 2)), ("lay", (False, True)), ("lay", ("0", "1")),
            ("lay", (0, 1), ()), ("lay", (0, 1), (1, 2, 0)), ("Lay", (0, 1)), ("take", (0, 1)), ["lay", (0, 1)],
            (["lay"], (0, 1)), ("say", (2, 0)), ("say", (2, 0), None), ("say", (2, 0), 0), ("say", (2, 0), "0"),
            ("say", (2, 0), ()), ("say", (2, 0), [0]), ("say", (2, 0), (1,)), ("say", (2, 0), (0, 1)),
            ("say", (2, 0), (2, 0)), ("say", (2, 0), (False,)), ("say", (2, 0), ([],)), ("say", (2, 0), ({},)),
            ("say", (2, 0), (0,), 0), ("say", (0, 2), (0,)), ("say", [2, 0], (0,))]


class Watcher(Hand):
    """Tells a log when it was asked, and what the ledger told then."""

    def __init__(self, me, log, rows=()):
        self.me, self.log, self.rows = me, log, rows

    def deeds(self, ledger):
        self.log.append((ledger.turn(), self.me, told_by(ledger)))
        return [deed for turn, deed in self.rows if turn == ledger.turn()]


class Giver(Hand):
    """Gives the very list that it was made of."""

    def __init__(self, given):
        self.given = given

    def deeds(self, ledger):
        return self.given


class Rascal:
    """Tries, by lot, deeds of all hands, twice over, and what is no deed at all."""

    def __init__(self, me, plan, seed):
        self.lot, self.deeds_to_try = Random(f"{me} {seed}"), all_deeds(plan)

    def deeds(self, ledger):
        return self.lot.choices(self.deeds_to_try + NO_DEEDS[:9], k=12) if self.deeds_to_try else NO_DEEDS[:9]


def doing(rows, number=3):
    """For each hand one that tries all rows: of these only its own may come of it."""
    return {h: Free(list(rows)) for h in range(number)}


def nobody_but(h, rows, number=3):
    return {**{other: Hand() for other in range(number)}, h: Free(list(rows))}


def keepers(number):
    return {h: Keeper(h) for h in range(number)}


class Asking(unittest.TestCase):
    """Point 20: who is asked, when, and of what they see."""

    ROWS = [(1, ("lay", (0, 1))), (1, ("lay", (1, 2))), (1, ("lay", (2, 0))), (2, ("say", (2, 0), (0,))),
            (3, ("say", (1, 2), (2, 0))), (4, ("say", (0, 1), (1, 2, 0)))]

    def logged(self, turns, plan=RING, rows=ROWS):
        log = []
        # The dict's own order is another one.
        Run(plan, {h: Watcher(h, log, rows) for h in (2, 0, 1)}, [], turns)
        return log

    def test_all_once_in_each_turn_in_rising_order(self):
        for turns in range(8):
            asked = [(turn, h) for turn, h, told in self.logged(turns)]
            self.assertEqual(asked, [(turn, h) for turn in range(1, turns + 1) for h in range(3)])

    def test_each_sees_the_ledger_as_it_stood_when_the_turn_began(self):
        for turn, h, told in self.logged(6):
            taken = [row for row in self.ROWS if row[0] < turn]
            self.assertEqual(told, told_by(ledger_with(RING, taken, turn)))

    def test_hands_that_wait_for_one_another_do_so_by_turns(self):
        def lays_when(mine, other):
            return Free(lambda ledger: [("lay", mine)] if other in ledger.laid() else [])

        hands = {0: Free([(1, ("lay", (0, 1)))]), 1: lays_when((1, 2), (0, 1)), 2: lays_when((2, 0), (1, 2))}
        self.assertEqual([Run(RING, hands, [], turns).ledger.laid() for turns in range(4)],
                         [[], [(0, 1)], [(0, 1), (1, 2)], [(0, 1), (1, 2), (2, 0)]])

    def test_hands_of_other_numbers_are_not_asked(self):
        log = []
        Run(RING, {h: Watcher(h, log) for h in range(6)}, [], 1)
        self.assertEqual([h for turn, h, told in log], [0, 1, 2])


class Taking(unittest.TestCase):
    """Point 20: what is taken, and in which order."""

    def test_hand_by_hand_in_the_order_told(self):
        web = Web(3, all_passings(3))
        rows = [(1, ("lay", passing)) for passing in [(2, 1), (2, 0), (1, 0), (1, 2), (0, 2), (0, 1)]]
        taken = []

        def noted(ledger, deed):
            taken.append(deed)
            return take(ledger, deed)

        take = Ledger.take
        with patch.object(Ledger, "take", noted):
            Run(even_plan(web, [0], 3), {h: doing(rows)[h] for h in (1, 2, 0)}, [], 1)
        self.assertEqual(taken, [("lay", passing) for passing in
                                 [(0, 2), (0, 1), (1, 0), (1, 2), (2, 1), (2, 0)]])

    def test_what_one_hand_says_in_one_turn(self):
        plan = even_plan(Web(3, all_passings(3)), [0, 1, 2], 5)
        chains = [(0, 2, 1), (0,), (0, 1), (0, 1, 2), (0, 2), (0,)]
        rows = [(1, ("lay", (1, 0)))] + [(2, ("say", (1, 0), chain)) for chain in chains]
        run = Run(plan, doing(rows), [0, 1, 2], 2)
        self.assertEqual(run.ledger.said((1, 0)), [(2, chain) for chain in chains])

    def test_a_giver_lays_and_nobody_else(self):
        for h, passing in product(range(3), TRIANGLE.passings):
            run = Run(RING, nobody_but(h, [(1, ("lay", passing))]), [], 2)
            self.assertEqual(run.ledger.laid(), [passing] if h == passing[0] else [])

    def test_a_taker_says_and_nobody_else(self):
        chains = {(2, 0): (0,), (1, 2): (2, 0), (0, 1): (1, 2, 0)}
        for h, passing in product(range(3), TRIANGLE.passings):
            lay, say = (1, ("lay", passing)), (2, ("say", passing, chains[passing]))
            hands = nobody_but(passing[0], [lay])
            hands[h] = Free([lay, say])
            run = Run(RING, hands, [0, 1, 2], 3)
            self.assertEqual(run.ledger.laid(), [passing])
            self.assertEqual(run.opened(), [passing] if h == passing[1] else [])

    def test_free_hands_do_not_do_each_others_deeds(self):
        rows = [(1, ("lay", (1, 2))), (2, ("say", (1, 2), (2, 0)))]
        for h in (0, 1, 2):
            run = Run(RING, nobody_but(h, rows), [0, 1, 2], 3)
            self.assertEqual(run.ledger.laid(), [(1, 2)] if h == 1 else [])
            self.assertEqual(run.ledger.said((1, 2)), [])

    def test_what_is_no_deed_is_nothing(self):
        for wrong in NO_DEEDS:
            rows = [(1, wrong), (1, ("lay", (2, 0))), (1, wrong), (2, wrong), (2, ("say", (2, 0), (0,))), (2, wrong)]
            run = Run(RING, doing(rows), [], 2)
            self.assertEqual(told_by(run.ledger),
                             told_by(ledger_with(RING, [(1, ("lay", (2, 0))), (2, ("say", (2, 0), (0,)))], 2)), wrong)

    def test_what_is_refused_is_nothing(self):
        right = [(1, ("lay", (2, 0))), (2, ("lay", (1, 2))), (4, ("say", (2, 0), (0,))), (5, ("say", (1, 2), (2, 0)))]
        wrong = [(1, ("say", (2, 0), (0,))), (1, ("lay", (2, 0))), (2, ("lay", (2, 0))), (2, ("say", (1, 2), (2, 0))),
                 (4, ("say", (1, 2), (2, 0))), (4, ("say", (0, 1), (1, 2, 0))), (5, ("say", (2, 0), (0,))),
                 (6, ("say", (1, 2), (2, 0)))]
        # Of the wrong ones those of a turn come first, then behind the right ones.
        for rows in [sorted(wrong[:1] + wrong[2:] + right, key=lambda row: row[0]), right + wrong]:
            run = Run(RING, doing(rows), [], 6)
            self.assertEqual(told_by(run.ledger), told_by(ledger_with(RING, right, 6)))
            self.assertEqual(run.opened(), [(1, 2), (2, 0)])

    def test_looked_at_by_what_stood_behind_the_turn_ahead(self):
        rows = [(1, ("lay", (2, 0))), (1, ("say", (2, 0), (0,))), (1, ("lay", (1, 2))), (2, ("say", (2, 0), (0,))),
                (2, ("say", (1, 2), (2, 0)))]
        run = Run(RING, doing(rows), [], 3)
        self.assertEqual(run.ledger.said((2, 0)), [(2, (0,))])
        self.assertEqual(run.ledger.said((1, 2)), [])

    def test_as_deed_by_deed_on_a_ledger(self):
        for seed, plan in enumerate(some_plans()[::6]):
            free = some_free(plan, seed)
            turns = seed % 9
            ledger = Ledger(plan, free)
            play(ledger, {h: Whim(h, seed) for h in range(plan.web.number)}, turns)
            run = Run(plan, {h: Whim(h, seed) for h in range(plan.web.number)}, free, turns)
            self.assertEqual(told_by(run.ledger), told_by(ledger))

    def test_whatever_hands_try(self):
        taken = 0
        for seed, plan in enumerate(some_plans()[3::9]):
            free = some_free(plan, seed)
            hands = range(plan.web.number)
            ledger = Ledger(plan, free)
            rascals = {h: Rascal(h, plan, seed) for h in hands}
            for turn in range(1, 9):
                for h, tried in [(h, rascals[h].deeds(moved_to(ledger, turn))) for h in hands]:
                    for deed in tried:
                        if deed in rascals[h].deeds_to_try and deed[1][deed[0] == "say"] == h:
                            taken += refusal_of(ledger, deed) is None
            run = Run(plan, {h: Rascal(h, plan, seed) for h in hands}, free, 8)
            self.assertEqual(told_by(run.ledger), told_by(ledger))
        self.assertGreater(taken, 300)


class WhoIsFree(unittest.TestCase):
    """Points 11, 20."""

    ROWS = [(1, ("lay", (1, 2))), (2, ("say", (1, 2), (2, 0)))]

    def test_who_is_told_to_be(self):
        # What 2 says can be said where 0 is free, whatever hand 0 has.
        for hand in [Keeper(0), Free([]), Hand()]:
            for free in [[], [0], [1], [2], [0, 1], [0, 2], [1, 2], [0, 1, 2]]:
                run = Run(RING, {0: hand, 1: Free(self.ROWS), 2: Free(self.ROWS)}, free, 2)
                self.assertEqual(run.ledger.said((1, 2)), [(2, (2, 0))] if 0 in free else [])
                self.assertEqual(run.ledger.free, free)

    def test_keepers_told_to_be_free_do_as_they_do(self):
        for free in [[], [0], [1, 2], [0, 1, 2]]:
            run = Run(RING, keepers(3), free, RING.last_turn())
            self.assertEqual(told_by(run.ledger)[:4], told_by(all_keep(RING).ledger)[:4])


class Turns(unittest.TestCase):
    """Points 20 to 22."""

    def test_the_ledger_stays_in_the_last_turn(self):
        for turns in [1, 2, 3, 7, 50, 200]:
            for hands in [keepers(3), doing([]), doing(Asking.ROWS)]:
                self.assertEqual(Run(RING, hands, [], turns).ledger.turn(), turns)

    def test_no_turns(self):
        run = Run(RING, keepers(3), [1], 0)
        self.assertEqual(told_by(run.ledger), told_by(Ledger(RING, [1])))
        self.assertEqual((run.opened(), run.fallen()), ([], RING.web.passings))
        self.assertEqual([run.outcome(h) for h in range(3)], ["none"] * 3)

    def test_one_turn(self):
        run = Run(RING, keepers(3), [], 1)
        self.assertEqual((run.ledger.turn(), run.ledger.laid(), run.opened()), (1, [(0, 1)], []))

    def test_what_is_done_in_the_last_turn_counts(self):
        self.assertEqual([Run(RING, keepers(3), [], turns).opened() for turns in range(3, 8)],
                         [[], [(2, 0)], [(1, 2), (2, 0)], RING.web.passings, RING.web.passings])
        self.assertEqual([Run(RING, keepers(3), [], turns).ledger.laid() for turns in range(1, 4)],
                         [[(0, 1)], [(0, 1), (1, 2)], RING.web.passings])


class HandedIn(unittest.TestCase):
    """Point 2."""

    def test_nothing_is_changed(self):
        hands, free, rows = keepers(3), [1], list(Asking.ROWS)
        hands[1] = Free(rows)
        kept = dict(hands)
        limits, leaders = dict(RING.limits), list(RING.leaders)
        Run(RING, hands, free, 7)
        self.assertEqual((list(hands.items()), free, rows), (list(kept.items()), [1], Asking.ROWS))
        self.assertEqual((RING.limits, RING.leaders, TRIANGLE.passings), (limits, leaders, [(0, 1), (1, 2), (2, 0)]))

    def test_what_hands_give_may_be_changed_once_given(self):
        given = [("lay", (0, 1))]

        class Spoiler(Hand):
            def deeds(self, ledger):
                given.clear()
                return [("lay", (2, 0))]

        run = Run(RING, {0: Giver(given), 1: Hand(), 2: Spoiler()}, [], 1)
        self.assertEqual(run.ledger.laid(), [(0, 1), (2, 0)])

    def test_deeds_that_hands_give_are_not_changed(self):
        given = [("lay", (0, 1)), None, ("lay", (1, 2))]
        Run(RING, {**keepers(3), 0: Giver(given)}, [], 3)
        self.assertEqual(given, [("lay", (0, 1)), None, ("lay", (1, 2))])

    def test_hands_and_free_changed_in_the_run(self):
        hands, free = keepers(3), [1]

        class Spoiler(Hand):
            def deeds(self, ledger):
                hands.clear()
                free.clear()
                ledger.free.clear()
                return []

        hands[1] = Spoiler()
        run = Run(RING, hands, free, 7)
        calm = Run(RING, {**keepers(3), 1: Hand()}, [1], 7)
        self.assertEqual(run.ledger.can_say(0), calm.ledger.can_say(0))
        self.assertEqual(told_by(run.ledger)[:4], told_by(calm.ledger)[:4])

    def test_lists_told_are_the_askers_own(self):
        run = all_keep(SHORT)
        kept = ([(1, 2), (2, 0)], [(0, 1)])
        for told in (run.opened(), run.fallen()):
            told.append((1, 1))
            told.reverse()
        self.assertEqual((run.opened(), run.fallen()), kept)
        self.assertEqual(TRIANGLE.passings, [(0, 1), (1, 2), (2, 0)])

    def test_a_run_is_over_behind_its_last_turn(self):
        run = Run(RING, {**keepers(3), 1: Free([(2, ("lay", (1, 2)))])}, [1], 5)
        self.assertEqual((run.opened(), run.outcome(1)), ([(1, 2), (2, 0)], "lost"))
        moved_to(run.ledger, 6).take(("say", (0, 1), (1, 2, 0)))
        self.assertEqual(run.ledger.opened(), RING.web.passings)
        self.assertEqual((run.opened(), run.fallen(), run.outcome(1)), ([(1, 2), (2, 0)], [(0, 1)], "lost"))


def run_with_open(web, leaders, boxes, laid=None):
    """A run of free hands all, in which just these boxes are open."""
    plan = even_plan(web, leaders, 3)
    ledger = Ledger(plan, list(range(web.number)))
    rows = [(1, ("lay", passing)) for passing in (web.passings if laid is None else laid)]
    rows += [(2, ("say", box, chain)) for box in boxes for chain in ledger.can_say(box[1])]
    return Run(plan, doing(rows, web.number), list(range(web.number)), 2)


def plain_outcome(web, opened, h):
    own = [passing for passing in web.passings if passing[0] == h]
    wished = [passing for passing in web.passings if passing[1] == h]
    if set(own + wished) <= set(opened):
        return "all"
    if set(own) & set(opened) and set(wished) - set(opened):
        return "lost"
    return "more" if set(own + wished) & set(opened) else "none"


class WhatIsLeft(unittest.TestCase):
    """Points 14, 21."""

    # Joined among 0, 1 and 2; 3 has no passings; 4 only gives; 5 only gets.
    WEB = Web(6, [(0, 1), (1, 0), (1, 2), (2, 0), (4, 0), (4, 1), (0, 5), (2, 5)])

    def test_open_and_fallen(self):
        run = run_with_open(TRIANGLE, [0], [(2, 0), (0, 1)])
        self.assertEqual(run.opened(), [(0, 1), (2, 0)])
        self.assertEqual(run.fallen(), [(1, 2)])

    def test_never_laid_is_not_open(self):
        run = run_with_open(TRIANGLE, [0], [(0, 1)], [(0, 1)])
        self.assertEqual(run.ledger.laid(), [(0, 1)])
        self.assertEqual((run.opened(), run.fallen()), ([(0, 1)], [(1, 2), (2, 0)]))

    def test_one_word_lacking_is_not_open(self):
        plan = even_plan(PAIR, [0, 1], 2)
        rows = [(1, ("lay", (0, 1))), (2, ("say", (0, 1), (1,)))]
        run = Run(plan, doing(rows, 2), [0, 1], 4)
        self.assertEqual((run.opened(), run.fallen(), run.outcome(0)), ([], [(0, 1), (1, 0)], "none"))
        run = Run(plan, doing(rows + [(4, ("say", (0, 1), (1, 0)))], 2), [0, 1], 4)
        self.assertEqual((run.opened(), run.fallen(), run.outcome(0)), ([(0, 1)], [(1, 0)], "lost"))

    def test_no_passings(self):
        run = all_keep(Plan(Web(2, []), [1], {}))
        self.assertEqual((run.opened(), run.fallen(), run.outcome(0), run.outcome(1)), ([], [], "all", "all"))

    def test_told_outcomes(self):
        table = [
            ([], ["none", "none", "none", "all", "none", "none"]),
            ([(0, 1)], ["lost", "more", "none", "all", "none", "none"]),
            ([(1, 0)], ["more", "lost", "none", "all", "none", "none"]),
            ([(0, 1), (1, 0)], ["lost", "lost", "none", "all", "none", "none"]),
            ([(0, 1), (4, 1)], ["lost", "more", "none", "all", "more", "none"]),
            ([(0, 1), (4, 1), (1, 0)], ["lost", "more", "none", "all", "more", "none"]),
            ([(0, 1), (4, 1), (1, 0), (1, 2)], ["lost", "all", "more", "all", "more", "none"]),
            ([(1, 0), (2, 0), (4, 0)], ["more", "lost", "lost", "all", "more", "none"]),
            ([(1, 0), (2, 0), (4, 0), (0, 5)], ["more", "lost", "lost", "all", "more", "more"]),
            ([(4, 0), (4, 1), (2, 5)], ["more", "more", "lost", "all", "all", "more"]),
            ([(0, 5), (2, 5)], ["lost", "none", "lost", "all", "none", "all"]),
            ([(1, 2), (2, 0), (2, 5)], ["more", "lost", "all", "all", "none", "more"]),
            (self.WEB.passings, ["all"] * 6),
        ]
        for boxes, outcomes in table:
            with self.subTest(boxes=boxes):
                # From each taker a way leads to 5, so each can say its word.
                run = run_with_open(self.WEB, [5], boxes)
                self.assertEqual(run.opened(), sorted(boxes))
                self.assertEqual([run.outcome(h) for h in range(6)], outcomes)

    def test_outcomes_of_all_sets_of_open_boxes(self):
        met = set()
        webs = [PAIR, TRIANGLE, Web(3, [(0, 1), (1, 0), (1, 2), (2, 1)]), Web(3, all_passings(3))]
        for web in webs:
            for bits in product([False, True], repeat=len(web.passings)):
                boxes = [passing for passing, bit in zip(web.passings, bits) if bit]
                run = run_with_open(web, [1], boxes)
                self.assertEqual(run.opened(), boxes)
                self.assertEqual(sorted(run.opened() + run.fallen()), web.passings)
                self.assertEqual(run.fallen(), sorted(run.fallen()))
                for h in range(web.number):
                    self.assertEqual(run.outcome(h), plain_outcome(web, boxes, h))
                    met.add(run.outcome(h))
        self.assertEqual(met, {"all", "lost", "none", "more"})

    def test_as_the_ledger_tells(self):
        for seed, plan in enumerate(some_plans()[1::7]):
            free = some_free(plan, seed)
            run = Run(plan, {h: Whim(h, seed) for h in range(plan.web.number)}, free, 7)
            self.assertEqual(run.opened(), run.ledger.opened())
            self.assertEqual(sorted(run.opened() + run.fallen()), plan.web.passings)
            self.assertEqual([run.outcome(h) for h in range(plan.web.number)],
                             [plain_outcome(plan.web, run.ledger.opened(), h) for h in range(plan.web.number)])


class AllKeep(unittest.TestCase):
    """Points 22, 23."""

    def test_a_ring(self):
        run = all_keep(RING)
        self.assertIsInstance(run, Run)
        self.assertEqual((run.ledger.turn(), run.ledger.free), (7, []))
        self.assertEqual((run.opened(), run.fallen()), (RING.web.passings, []))
        self.assertEqual([run.outcome(h) for h in range(3)], ["all"] * 3)
        self.assertEqual([run.ledger.said(passing) for passing in RING.web.passings],
                         [[(6, (1, 2, 0))], [(5, (2, 0))], [(4, (0,))]])

    def test_so_many_turns_as_are_long_enough(self):
        for plan in some_plans()[::3]:
            self.assertEqual(all_keep(plan).ledger.turn(), max(plan.limits.values(), default=0) + plan.web.number + 1)

    def test_once_and_again(self):
        for plan in [RING, SHORT] + span_plans()[::40]:
            first = all_keep(plan)
            again = all_keep(plan)
            self.assertEqual(told_by(first.ledger), told_by(again.ledger))
            self.assertEqual((first.opened(), first.fallen()), (again.opened(), again.fallen()))

    def test_limits_too_small(self):
        run = all_keep(SHORT)
        self.assertEqual((run.opened(), run.fallen()), ([(1, 2), (2, 0)], [(0, 1)]))
        self.assertEqual([run.outcome(h) for h in range(3)], ["more", "lost", "all"])
        run = all_keep(Plan(TRIANGLE, [0], {(0, 1): 3, (1, 2): 3, (2, 0): 2}))
        self.assertEqual((run.opened(), run.fallen()), ([], TRIANGLE.passings))
        self.assertEqual([run.outcome(h) for h in range(3)], ["none"] * 3)
        run = all_keep(even_plan(TRIANGLE, [0], 0))
        self.assertEqual((run.ledger.turn(), run.opened()), (4, []))

    def test_a_ring_without_a_leader(self):
        web = Web(4, [(0, 1), (1, 0), (1, 2), (2, 3), (3, 2)])
        run = all_keep(even_plan(web, [0], 4))
        self.assertEqual(run.ledger.laid(), [(0, 1), (1, 0), (1, 2)])
        self.assertEqual([run.outcome(h) for h in range(4)], ["all", "more", "none", "none"])
        run = all_keep(even_plan(web, [3], 4))
        self.assertEqual((run.ledger.laid(), run.opened()), ([(3, 2)], []))

    def test_as_keepers_that_remember(self):
        for plan in some_plans()[::4] + span_plans()[::15]:
            ledger = Ledger(plan)
            play(ledger, {h: PlainKeeper(h) for h in range(plan.web.number)}, plan.last_turn())
            self.assertEqual(told_by(all_keep(plan).ledger), told_by(ledger))


if __name__ == "__main__":
    unittest.main()
