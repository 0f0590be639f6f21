import unittest
from random import Random

from helper import Whim, even_plan, some_plans, span_plans, told_by
from wordswap.errors import NoText
from wordswap.hands import Free, Keeper
from wordswap.judges import judge
from wordswap.planners import plan_for
from wordswap.plans import Plan
from wordswap.runs import Run, all_keep
from wordswap.texts import read_deeds, read_plan, written_deeds, written_plan
from wordswap.webs import Web

RING = Plan(Web(3, [(2, 0), (1, 2), (0, 1)]), [0, 2], {(0, 1): 3, (1, 2): 10, (2, 0): 0})
RING_TEXT = "hands 3\nleaders 0 2\npass 0 1 3\npass 1 2 10\npass 2 0 0"
DEEDS = [(1, ("lay", (0, 1))), (1, ("lay", (2, 0))), (2, ("say", (2, 0), (0,))), (12, ("say", (0, 1), (1, 2, 0)))]
DEEDS_TEXT = "1 lay 0 1\n1 lay 2 0\n2 say 2 0 0\n12 say 0 1 1 2 0"
# What is no number, or none that may stand in a text.
NO_NUMBERS = ["", "00", "01", "007", "-1", "+1", "-0", "1.0", "1e0", "1_0", "0x1", "one", "o", "None", "True", "1,",
              "(1", "1)", "1000000000", "0000000001", "1" * 50, "1" * 5000, "\t1", "1\t", "1\r", "\r", "\u00b2",
              "\u0661", "\uff11", "1\u00a0", "\u20091", "1\x0b", "1\x0c", "1\x1c", "1\x85", "1\u2028", "1\x00", "\ufeff1"]


def parts(plan):
    return (plan.web.number, plan.web.passings, plan.leaders, plan.limits)


class Texts(unittest.TestCase):
    def assert_no_plan(self, at, text):
        self.assert_no_text(read_plan, at, text)

    def assert_no_deeds(self, at, text):
        self.assert_no_text(read_deeds, at, text)

    def assert_no_text(self, read, at, text):
        with self.subTest(text=text):
            with self.assertRaises(NoText) as caught:
                read(text)
            self.assertEqual(caught.exception.at, at)


class WrittenPlans(Texts):
    """Point 26."""

    def test_rows(self):
        self.assertEqual(written_plan(RING), RING_TEXT)

    def test_no_passings(self):
        self.assertEqual(written_plan(Plan(Web(2, []), [1], {})), "hands 2\nleaders 1")
        self.assertEqual(written_plan(Plan(Web(6, []), [0, 1, 2, 3, 4, 5], {(0, 1): 3})),
                         "hands 6\nleaders 0 1 2 3 4 5")

    def test_passings_are_sorted(self):
        web = Web(3, [(2, 1), (0, 2), (2, 0), (0, 1)])
        self.assertEqual(written_plan(even_plan(web, [0], 5)),
                         "hands 3\nleaders 0\npass 0 1 5\npass 0 2 5\npass 2 0 5\npass 2 1 5")

    def test_numbers_of_many_figures(self):
        for limit in [0, 1, 9, 10, 100, 101, 4096, 999999999, 1000000000, 10 ** 30]:
            plan = Plan(Web(2, [(1, 0)]), [0], {(1, 0): limit})
            self.assertEqual(written_plan(plan), f"hands 2\nleaders 0\npass 1 0 {limit}")


class ReadPlans(Texts):
    """Point 27."""

    def test_told(self):
        plan = read_plan(RING_TEXT)
        self.assertIsInstance(plan, Plan)
        self.assertEqual(parts(plan), parts(RING))
        self.assertEqual(plan.limit((1, 2)), 10)

    def test_no_passings(self):
        self.assertEqual(parts(read_plan("hands 2\nleaders 1")), (2, [], [1], {}))
        self.assertEqual(parts(read_plan("hands 6\nleaders 0 1 2 3 4 5")), (6, [], [0, 1, 2, 3, 4, 5], {}))

    def test_what_is_written_is_read_to_the_same(self):
        for plan in some_plans() + span_plans()[::5]:
            text = written_plan(plan)
            self.assertEqual(parts(read_plan(text)), parts(plan))
            self.assertEqual(written_plan(read_plan(text)), text)

    def test_numbers_of_one_to_nine_figures(self):
        limits = [0, 9] + [10 ** figures for figures in range(1, 9)] + [10 ** figures - 1 for figures in range(2, 10)]
        for limit in limits:
            plan = Plan(Web(2, [(0, 1), (1, 0)]), [0], {(0, 1): limit, (1, 0): 7})
            self.assertEqual(parts(read_plan(written_plan(plan))), parts(plan))

    def test_ten_figures(self):
        self.assert_no_plan(3, "hands 3\nleaders 0\npass 0 1 1000000000")
        self.assert_no_plan(4, "hands 3\nleaders 0\npass 0 1 1\npass 1 0 9999999999")
        self.assert_no_plan(4, written_plan(Plan(Web(2, [(0, 1), (1, 0)]), [0], {(0, 1): 0, (1, 0): 10 ** 9})))

    def test_plans_do_not_share_what_they_hold(self):
        first = read_plan(RING_TEXT)
        first.leaders.clear()
        first.limits.clear()
        self.assertEqual(parts(read_plan(RING_TEXT)), parts(RING))


class NoPlans(Texts):
    """Point 27."""

    def test_the_text_without_signs(self):
        self.assert_no_plan(1, "")

    def test_rows_lacking(self):
        for number in range(2, 7):
            self.assert_no_plan(2, f"hands {number}")

    def test_a_wrong_row_ahead_of_lacking_ones(self):
        for row in ["hands", "hands 1", "hands 7", "hands 03", "hands 3 ", "leaders 0", "pass 0 1 3", " ", "x"]:
            self.assert_no_plan(1, row)

    def test_only_line_ends(self):
        self.assert_no_plan(1, "\n")
        self.assert_no_plan(1, "\n\n\n")
        self.assert_no_plan(1, "\n" + RING_TEXT)

    def test_a_row_without_signs(self):
        self.assert_no_plan(2, "hands 3\n")
        self.assert_no_plan(2, "hands 3\n\nleaders 0")
        self.assert_no_plan(3, "hands 3\nleaders 0\n")
        self.assert_no_plan(3, "hands 3\nleaders 0\n\npass 0 1 3")
        self.assert_no_plan(6, RING_TEXT + "\n")
        self.assert_no_plan(6, RING_TEXT + "\n\n")

    def test_the_row_of_hands(self):
        rest = "\nleaders 0 1\npass 0 1 3"
        self.assertEqual(read_plan("hands 2" + rest).web.number, 2)
        for row in ["hands 0", "hands 1", "hands 7", "hands 10", "hands 999999999", "hands", "hands 2 3", "hands 2 2",
                    "hands  2", " hands 2", "hands 2 ", "Hands 2", "HANDS 2", "hand 2", "hands: 2", "hands2", "2",
                    "2 hands", "leaders 2", "pass 2", "hands\t2", "hands two", "# hands 2", "hands 2\r", "\ufeffhands 2"]:
            self.assert_no_plan(1, row + rest)
        for word in NO_NUMBERS:
            self.assert_no_plan(1, f"hands {word}{rest}")

    def test_the_row_of_leaders(self):
        for row in ["leaders", "leaders ", "leaders 1 0", "leaders 0 0", "leaders 0 2 1", "leaders 0 1 1", "leaders 3",
                    "leaders 0 3", "leaders 0 1 2 3", "leaders 999999999", "leaders 0  1", " leaders 0", "leaders 0 ",
                    "leader 0", "Leaders 0", "leaders 0,1", "leaders -1", "leaders -1 0", "0", "0 1", "hands 3",
                    "pass 0 1 3", "leaders 0\t1", "leaders 0\r", "leaders0", "leaders 0 pass 0 1 3"]:
            self.assert_no_plan(2, f"hands 3\n{row}\npass 0 1 3")
            self.assert_no_plan(2, f"hands 3\n{row}")
        for word in NO_NUMBERS:
            self.assert_no_plan(2, f"hands 3\nleaders {word}")
            self.assert_no_plan(2, f"hands 3\nleaders 0 {word}")
            self.assert_no_plan(2, f"hands 3\nleaders {word} 2")

    def test_the_rows_of_passings(self):
        for row in ["pass", "pass 0", "pass 0 2", "pass 0 2 3 4", "pass 0 2 3 0", "pass  0 2 3", "pass 0  2 3",
                    "pass 0 2  3", " pass 0 2 3", "pass 0 2 3 ", "Pass 0 2 3", "passing 0 2 3", "give 0 2 3", "0 2 3",
                    "pass 0 2 -3", "pass (0, 2) 3", "pass 0 2 3\r", "pass\t0 2 3", "leaders 0", "hands 3",
                    "1 lay 0 2", "# pass 0 2 3", " "]:
            self.assert_no_plan(4, f"hands 3\nleaders 0\npass 0 1 3\n{row}\npass 2 1 3")
            self.assert_no_plan(4, f"hands 3\nleaders 0\npass 0 1 3\n{row}")
        for word in NO_NUMBERS:
            for row in [f"pass {word} 0 3", f"pass 1 {word} 3", f"pass 1 0 {word}"]:
                self.assert_no_plan(4, f"hands 3\nleaders 0\npass 0 1 3\n{row}")

    def test_passings_that_are_none(self):
        for row in ["pass 1 1 3", "pass 2 2 3", "pass 1 3 3", "pass 3 1 3", "pass 1 999999999 3", "pass 999999999 1 3"]:
            self.assert_no_plan(4, f"hands 3\nleaders 0\npass 0 1 3\n{row}\npass 2 1 3")
            self.assert_no_plan(3, f"hands 3\nleaders 0\n{row}\npass 2 1 3")
        self.assert_no_plan(3, "hands 3\nleaders 0\npass 0 0 3")

    def test_passings_twice_or_out_of_order(self):
        self.assert_no_plan(4, "hands 3\nleaders 0\npass 0 1 3\npass 0 1 3")
        self.assert_no_plan(4, "hands 3\nleaders 0\npass 0 1 3\npass 0 1 4")
        self.assert_no_plan(5, "hands 3\nleaders 0\npass 0 1 3\npass 1 2 3\npass 0 1 3")
        self.assert_no_plan(4, "hands 3\nleaders 0\npass 1 2 3\npass 0 1 3")
        self.assert_no_plan(4, "hands 3\nleaders 0\npass 0 2 3\npass 0 1 9")
        self.assert_no_plan(5, "hands 3\nleaders 0\npass 0 1 3\npass 2 0 3\npass 1 2 3")
        self.assert_no_plan(5, "hands 3\nleaders 0\npass 0 1 3\npass 2 0 3\npass 1 2 3\npass 1 1 1")

    def test_rows_out_of_order(self):
        self.assert_no_plan(1, "leaders 0\nhands 3")
        self.assert_no_plan(2, "hands 3\npass 0 1 3\nleaders 0")
        self.assert_no_plan(2, "hands 3\nhands 3\nleaders 0")
        self.assert_no_plan(3, "hands 3\nleaders 0\nleaders 1")
        self.assert_no_plan(4, "hands 3\nleaders 0\npass 0 1 3\nhands 3")

    def test_the_first_wrong_row_is_told(self):
        self.assert_no_plan(1, "hands 9\nleaders 9\npass 9 9 9")
        self.assert_no_plan(2, "hands 3\nleaders 3\npass 9 9 9")
        self.assert_no_plan(3, "hands 3\nleaders 0\npass 0 3 1\npass 0 1 1\n")

    def test_other_ends_of_lines_are_signs(self):
        for end in ["\r\n", "\r", "\x0b", "\x0c", "\x1c", "\x85", "\u2028", "\n\r"]:
            at = 2 if end == "\n\r" else 1
            self.assert_no_plan(at, RING_TEXT.replace("\n", end))


class WrittenDeeds(Texts):
    """Point 26."""

    def test_rows(self):
        self.assertEqual(written_deeds(DEEDS), DEEDS_TEXT)

    def test_no_deeds(self):
        self.assertEqual(written_deeds([]), "")

    def test_in_the_order_of_the_list(self):
        rows = [(3, ("say", (1, 0), (0, 2))), (3, ("lay", (2, 1))), (3, ("lay", (0, 1)))]
        self.assertEqual(written_deeds(rows), "3 say 1 0 0 2\n3 lay 2 1\n3 lay 0 1")

    def test_rows_are_not_changed(self):
        rows = list(DEEDS)
        written_deeds(rows)
        self.assertEqual(rows, DEEDS)


class ReadDeeds(Texts):
    """Point 27."""

    def test_told(self):
        self.assertEqual(read_deeds(DEEDS_TEXT), DEEDS)

    def test_no_deeds(self):
        self.assertEqual(read_deeds(""), [])

    def test_the_list_is_a_new_one(self):
        for text in ["", DEEDS_TEXT]:
            kept = read_deeds(text)
            read_deeds(text).append((99, ("lay", (0, 1))))
            self.assertEqual(read_deeds(text), kept)

    def test_what_is_written_is_read_to_the_same(self):
        lot = Random("texts")

        def number():
            return lot.randrange(10 ** lot.randint(1, 9))

        for size in range(60):
            turns = sorted(1 + number() % 999999999 for row in range(size))
            rows = []
            for turn in turns:
                deed = ("lay", (number(), number()))
                if lot.random() < 0.5:
                    deed = ("say", deed[1], tuple(number() for h in range(lot.randint(1, 7))))
                rows.append((turn, deed))
            self.assertEqual(read_deeds(written_deeds(rows)), rows)

    def test_only_the_forms_are_looked_at(self):
        rows = [(1, ("lay", (0, 0))), (1, ("lay", (0, 0))), (1, ("say", (7, 9), (5, 5, 5))), (1, ("say", (0, 1), (0,))),
                (999999999, ("say", (999999999, 0), (1, 999999999)))]
        self.assertEqual(read_deeds(written_deeds(rows)), rows)

    def test_kinds(self):
        rows = read_deeds(DEEDS_TEXT)
        self.assertIsInstance(rows, list)
        for row in rows:
            self.assertIsInstance(row, tuple)
            self.assertIsInstance(row[1], tuple)
            self.assertTrue(all(isinstance(part, tuple) for part in row[1][1:]))
            self.assertTrue(all(part.__class__ is int for part in [row[0], *row[1][1], *row[1][-1]]))


class NoDeeds(Texts):
    """Point 27."""

    def test_a_row_without_signs(self):
        self.assert_no_deeds(1, "\n")
        self.assert_no_deeds(1, "\n" + DEEDS_TEXT)
        self.assert_no_deeds(2, "1 lay 0 1\n\n1 lay 0 1")
        self.assert_no_deeds(5, DEEDS_TEXT + "\n")

    def test_blanks_alone(self):
        self.assert_no_deeds(1, " ")
        self.assert_no_deeds(1, "   ")

    def test_wrong_rows(self):
        for row in ["2", "2 lay", "2 lay 0", "2 lay 0 1 2", "2 lay 0 1 ", " 2 lay 0 1", "2  lay 0 1", "2 lay  0 1",
                    "2 lay 0  1", "lay 0 1", "lay 2 0 1", "2 0 1 lay", "2 Lay 0 1", "2 lays 0 1", "2 take 0 1",
                    "2 0 1", "2 0 1 2", "2 say", "2 say 0", "2 say 0 1", "2 say 0 1 ", "2 say 0 1  1", "2 say 0 1 1 ",
                    " 2 say 0 1 1", "2 say  0 1 1", "2 say 0 1 (1,)", "2 say 0 1 1,", "2 pass 0 1 1", "2 SAY 0 1 1",
                    "2\tlay 0 1", "2 lay 0 1\r", "hands 3", "2 lay (0, 1)", "2 lay 0 1 lay 0 1", "2 lay lay 0 1",
                    "2 2 lay 0 1", "2 lay 0 1 #", "2: lay 0 1"]:
            self.assert_no_deeds(2, f"1 lay 0 1\n{row}\n3 lay 0 1")
            self.assert_no_deeds(1, row)

    def test_wrong_numbers(self):
        for word in NO_NUMBERS:
            for row in [f"{word} lay 0 1", f"2 lay {word} 1", f"2 lay 0 {word}", f"{word} say 0 1 1",
                        f"2 say {word} 1 1", f"2 say 0 {word} 1", f"2 say 0 1 {word}", f"2 say 0 1 1 {word}",
                        f"2 say 0 1 {word} 1"]:
                self.assert_no_deeds(2, f"1 lay 0 1\n{row}")

    def test_turns(self):
        self.assert_no_deeds(1, "0 lay 0 1")
        self.assert_no_deeds(1, "0 say 0 1 1\n1 lay 0 1")
        self.assert_no_deeds(2, "1 lay 0 1\n0 lay 0 1")
        self.assert_no_deeds(2, "2 lay 0 1\n1 lay 0 1")
        self.assert_no_deeds(4, "2 lay 0 1\n2 lay 1 0\n10 lay 0 1\n9 lay 0 1\n1 lay 0 1")
        self.assertEqual([turn for turn, deed in read_deeds("9 lay 0 1\n10 lay 0 1\n10 lay 0 1\n100 lay 0 1")],
                         [9, 10, 10, 100])

    def test_what_is_written_of_wrong_turns_is_refused(self):
        self.assert_no_deeds(2, written_deeds([(2, ("lay", (0, 1))), (1, ("lay", (0, 1)))]))
        self.assert_no_deeds(1, written_deeds([(0, ("lay", (0, 1)))]))
        self.assert_no_deeds(1, written_deeds([(10 ** 9, ("lay", (0, 1)))]))

    def test_other_ends_of_lines_are_signs(self):
        for end in ["\r\n", "\r", "\x0b", "\x0c", "\x1c", "\x85", "\u2028"]:
            self.assert_no_deeds(1, DEEDS_TEXT.replace("\n", end))


class AnyText(Texts):
    """Point 27: a text is read, or refused with NoText and the number of a row."""

    SIGNS = "0123 \n\nhandspleyr-\t\r\u0661"

    def test_texts_with_a_few_signs_changed(self):
        lot = Random("signs")
        counts = {}
        for text, read, write in [(RING_TEXT, read_plan, written_plan), (DEEDS_TEXT, read_deeds, written_deeds)] * 3000:
            for change in range(lot.randint(1, 3)):
                at = lot.randrange(len(text) + 1)
                text = text[:at] + lot.choice(["", lot.choice(self.SIGNS)]) + text[at + lot.choice([0, 1]):]
            try:
                # What is read is written to the very text, so no other form is let by.
                self.assertEqual(write(read(text)), text)
                counts[read, "read"] = counts.get((read, "read"), 0) + 1
            except NoText as refusal:
                rows = text.count("\n") + 1
                self.assertIn(refusal.at, range(1, rows + 2))
                if refusal.at > rows:
                    self.assertEqual((read, refusal.at, rows), (read_plan, 2, 1))
                counts[read, "refused"] = counts.get((read, "refused"), 0) + 1
        self.assertEqual(len(counts), 4)
        self.assertGreater(min(counts.values()), 100)

    def test_rows_ahead_of_the_wrong_one_are_right(self):
        # Whatever the row told, without it and all behind it the text is read.
        lot = Random("rows")
        words = ["pass 0 1 3", "pass 0 2 1", "pass 1 0 2", "pass 1 2 0", "pass 2 1 1", "pass 2 2 1", "pass 1 5 1", ""]
        met = set()
        for turn in range(1500):
            text = "\n".join(["hands 3", "leaders 0 1"] + sorted(lot.sample(words[:5], 2)) + lot.choices(words, k=2))
            try:
                read_plan(text)
                met.add(None)
            except NoText as refusal:
                read_plan("\n".join(text.split("\n")[:refusal.at - 1]))
                self.assert_no_plan(refusal.at, "\n".join(text.split("\n")[:refusal.at]))
                met.add(refusal.at)
        self.assertEqual(met, {None, 5, 6})


class WrittenReadAndRun(Texts):
    """Points 20, 26, 27."""

    def assert_alike(self, run, other):
        self.assertEqual(told_by(run.ledger), told_by(other.ledger))
        self.assertEqual((run.opened(), run.fallen()), (other.opened(), other.fallen()))
        hands = range(run.ledger.plan.web.number)
        self.assertEqual([run.outcome(h) for h in hands], [other.outcome(h) for h in hands])

    def test_if_all_keep(self):
        for plan in some_plans()[::9] + span_plans()[::30]:
            self.assert_alike(all_keep(read_plan(written_plan(plan))), all_keep(plan))

    def test_deeds_of_free_hands(self):
        for seed, plan in enumerate(some_plans()[::12] + span_plans()[::30]):
            hands = range(plan.web.number)
            free = list(hands)
            rows = []

            def noting(h):
                whim = Whim(h, seed)

                def deeds(ledger):
                    told = whim.deeds(ledger)
                    rows.extend((ledger.turn(), deed) for deed in told)
                    return told
                return Free(deeds)

            first = Run(plan, {h: noting(h) for h in hands}, free, 6)
            plan_again, rows_again = read_plan(written_plan(plan)), read_deeds(written_deeds(rows))
            self.assertEqual(rows_again, rows)
            self.assert_alike(Run(plan, {h: Free(rows) for h in hands}, free, 6), first)
            self.assert_alike(Run(plan_again, {h: Free(rows_again) for h in hands}, free, 6), first)

    def test_what_the_judge_shows(self):
        plan = plan_for(Web(4, [(0, 1), (1, 2), (2, 3), (3, 0), (1, 0)]))
        bad = Plan(plan.web, plan.leaders, {**plan.limits, (2, 3): 9})
        word, u, deeds = judge(bad)
        free = [h for h in range(4) if h != u]
        first = Run(bad, {**{h: Free(deeds) for h in free}, u: Keeper(u)}, free, bad.last_turn())
        bad_again, deeds_again = read_plan(written_plan(bad)), read_deeds(written_deeds(deeds))
        self.assertEqual(judge(bad_again), (word, u, deeds_again))
        again = Run(bad_again, {**{h: Free(deeds_again) for h in free}, u: Keeper(u)}, free, bad_again.last_turn())
        self.assert_alike(again, first)
        self.assertEqual(again.outcome(u), "lost")


if __name__ == "__main__":
    unittest.main()
