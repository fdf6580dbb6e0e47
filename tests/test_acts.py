import unittest

from goneday.acts import (
    by_hand, check_entry, check_strike, check_turn, closed, gone_maker, is_right, judged, known_by, known_deeds, known_on,
    there_by, wrong_rows,
)
from goneday.errors import GoneMaker, Held, MustStay, NoDay, NoDeed, NoLeave, NoNumber, NoPaper, Twice
from goneday.plans import plan, there
from tests.samples import DEEDS, NO_PAPERS, NO_PARTS, busy_deeds, gone, in_all_orders, keep, shuffled

A = ("paper", 5, "a", "k", ())
B = ("paper", 9, "b", "k", ("a",))
NEEDS = ("rule", 0, "n", ("leave", "k"))

# What is neither a number of an act nor a day that can be turned to.
NO_NUMBERS = (None, True, False, -1, "0", "", [], {}, (), [0], (0,), {0: 0}, 10 ** 9)


def entered(*deeds):
    return [("enter", deed) for deed in deeds]


class TestKnown(unittest.TestCase):
    acts = entered(A, B) + [("strike", 0)] + entered(NEEDS, A) + [("strike", 3)]

    def test_from_the_entering_till_the_striking(self):
        rows = ({}, {0: A}, {0: A, 1: B}, {1: B}, {1: B, 3: NEEDS}, {1: B, 3: NEEDS, 4: A}, {1: B, 4: A})
        for many, known in enumerate(rows):
            self.assertEqual(known_by(self.acts[:many]), known)
            self.assertEqual(known_deeds(self.acts[:many]), tuple(known.values()))

    def test_in_the_order_of_the_acts(self):
        self.assertEqual(known_deeds(entered(B, A)), (B, A))
        self.assertEqual(known_deeds(self.acts[:5]), (B, NEEDS, A))

    def test_on_days(self):
        spans = [(3, 9, 1), (10, 10, 3), (11, 20, 3), (21, 21, 6)]
        for day, told in ((3, (A,)), (9, (A,)), (10, (B,)), (15, (B,)), (20, (B,)), (21, (B, A))):
            self.assertEqual(known_on(self.acts, spans, day), told)
        for thing in NO_NUMBERS + (0, 2, 22, 99999):
            with self.assertRaises(NoDay, msg=repr(thing)):
                known_on(self.acts, spans, thing)
        with self.assertRaises(NoDay):
            known_on(self.acts, [(0, 1, 1)], True)


class TestEntries(unittest.TestCase):
    def test_no_deed(self):
        for thing in NO_PARTS + (True, 0, A + ("a",), list(A), ("paper", -1) + A[2:], ("paper", 100000) + A[2:]):
            with self.assertRaises(NoDeed, msg=repr(thing)):
                check_entry(entered(*DEEDS), [], thing)

    def test_deeds_that_go_together(self):
        for place, deed in enumerate(DEEDS):
            self.assertIsNone(check_entry(entered(*DEEDS[:place]), [], deed))

    def test_the_first_known_deed_that_quarrels(self):
        acts = entered(NEEDS, ("end", 4, "r"), A, ("leave", 3, "l", "k"))
        rows = ((("paper", 77, "a", "m", ("b",)), 2), (("end", 0, "n"), 0), (gone("r", 5, day=4), 1), (A, 2),
                (("leave", 9, "l", "m"), 3))
        for deed, number in rows:
            with self.assertRaises(Twice) as caught:
                check_entry(acts, [], deed)
            self.assertEqual(caught.exception.number, number)

    def test_struck_ones_quarrel_no_more(self):
        acts = entered(A) + [("strike", 0)]
        self.assertIsNone(check_entry(acts, [], A))
        with self.assertRaises(Twice) as caught:
            check_entry(acts + entered(A), [], A)
        self.assertEqual(caught.exception.number, 2)


class TestGoneMaker(unittest.TestCase):
    def refuses(self, deeds, done, coming, name):
        for others in in_all_orders(deeds):
            self.assertEqual(gone_maker(others, done, coming), name)
            if name is None:
                self.assertIsNone(check_entry(entered(*others), done, coming))
            else:
                with self.assertRaises(GoneMaker) as caught:
                    check_entry(entered(*others), done, coming)
                self.assertEqual(caught.exception.paper, name)

    def test_a_maker_that_goes_by_the_plan(self):
        deeds = (A, gone("r", 10))
        for day, name in ((5, None), (14, None), (15, "a"), (16, "a"), (99999, "a")):
            self.refuses(deeds, [], ("paper", day, "b", "m", ("a",)), name)
            # It has gone by then, though nothing calls it any more.
            self.refuses(deeds + (("end", 16, "r"),), [], ("paper", day, "b", "m", ("a",)), name)

    def test_a_maker_that_is_called_whatever_bars_it(self):
        bars = (("hold", 0, "h", ("paper", "a"), False), NEEDS, keep("s", 500))
        for bar in bars:
            for day, name in ((14, None), (15, "a"), (20, "a"), (99, "a")):
                self.refuses((A, gone("r", 10), bar), [], ("paper", day, "b", "m", ("a",)), name)
            ended = (A, gone("r", 10), bar, ("end", 40, "r"))
            for day, name in ((39, "a"), (40, None), (99, None)):
                self.refuses(ended, [], ("paper", day, "b", "m", ("a",)), name)

    def test_a_maker_that_is_called_to_follow_on_the_day(self):
        deeds = (A, ("paper", 6, "c", "m", ("a",)), gone("r", 10), ("rule", 0, "f", ("follow", "m")), keep("s", 9, "m", 15))
        held = deeds + (("hold", 0, "h", ("paper", "c"), False),)
        for day, name in ((14, None), (15, "c"), (16, "c")):
            self.refuses(held, [], ("paper", day, "d", "n", ("c",)), name)

    def test_a_maker_that_was_let_go(self):
        for day, name in ((11, None), (12, "a"), (13, "a")):
            self.refuses((A,), [("a", 12, None, True)], ("paper", day, "b", "m", ("a",)), name)

    def test_the_first_of_its_makers_in_order(self):
        deeds = (("paper", 1, "z", "k", ()), ("paper", 2, "y", "m", ()), ("paper", 3, "x", "k", ()), gone("r", 10))
        coming = ("paper", 20, "b", "m", ("x", "y", "z"))
        self.refuses(deeds, [], coming, "z")
        self.refuses(deeds, [("y", 4, None, False)], coming, "z")
        self.refuses(deeds[1:], [("y", 4, None, False)], coming, "y")
        self.refuses(deeds, [], ("paper", 12, "b", "m", ("x", "y", "z")), "z")
        self.refuses(deeds, [], ("paper", 20, "b", "m", ("x", "y")), "x")

    def test_makers_that_do_not_count(self):
        self.refuses((gone("r", 0),), [("ghost", 3, None, False)], ("paper", 20, "b", "m", ("ghost",)), None)
        self.refuses((("paper", 20, "c", "k", ()), gone("r", 0)), [], ("paper", 20, "b", "m", ("c",)), None)
        self.refuses((("paper", 20, "a", "k", ()), gone("r", 0)), [], ("paper", 20, "b", "m", ("a",)), "a")

    def test_a_name_that_was_let_go_ahead_of_its_makers(self):
        deeds = (A, gone("r", 10))
        self.refuses(deeds, [("b", 50, None, False)], ("paper", 20, "b", "m", ("a",)), "b")
        self.refuses(deeds, [("b", 50, None, False)], ("paper", 3, "b", "m", ()), "b")
        with self.assertRaises(Twice):
            check_entry(entered(*deeds), [("a", 15, None, False)], ("paper", 20, "a", "m", ()))


class TestStrikes(unittest.TestCase):
    acts = entered(A, B) + [("strike", 0)]

    def test_numbers(self):
        self.assertIsNone(check_strike(self.acts, 1))
        self.assertIsNone(check_strike(self.acts[:2], 0))
        for thing in NO_NUMBERS + (0, 2, 3):
            with self.assertRaises(NoNumber, msg=repr(thing)):
                check_strike(self.acts, thing)
        with self.assertRaises(NoNumber):
            check_strike([], 0)


class TestTurns(unittest.TestCase):
    def test_greater_days_alone(self):
        for present, day in ((None, 0), (None, 99999), (0, 1), (5, 6), (5, 99999)):
            self.assertIsNone(check_turn(present, day))
        for present, day in ((0, 0), (5, 5), (5, 4), (99999, 99999), (None, 100000), (5, 100000)):
            with self.assertRaises(NoDay):
                check_turn(present, day)
        for thing in NO_NUMBERS:
            for present in (None, 0):
                with self.assertRaises(NoDay, msg=repr(thing)):
                    check_turn(present, thing)


class TestClosing(unittest.TestCase):
    def test_by_what_is_known(self):
        deeds = (A, B, gone("r", 10))
        for others in in_all_orders(deeds):
            self.assertEqual(closed(others, 0, 14, []), [])
            self.assertEqual(closed(others, 0, 15, []), [("a", 15, None, False)])
            self.assertEqual(closed(others, 15, 19, []), [("a", 15, None, False), ("b", 19, None, False)])
            self.assertEqual(closed(others, 16, 18, [("a", 15, None, False)]), [])

    def test_on_the_first_day_what_is_called_by_now(self):
        deeds = (A, B, gone("r", 10))
        self.assertEqual(closed(deeds, 17, 17, []), [("a", 17, None, False)])
        self.assertEqual(closed(deeds, 50, 60, []), [("a", 50, None, False), ("b", 50, None, False)])

    def test_the_archive_s_own_goings(self):
        deeds = (A, B, ("rule", 0, "f", ("follow", "k")))
        self.assertEqual(closed(deeds, 0, 90, []), [])
        self.assertEqual(closed(deeds, 12, 90, [("a", 12, None, True)]), [("b", 12, None, False)])

    def test_used_leaves_stay_used(self):
        deeds = (A, B, gone("r", 10), NEEDS, ("leave", 1, "l", "k"), ("leave", 2, "o", "k"))
        self.assertEqual(closed(deeds, 0, 99, []), [("a", 15, "l", False), ("b", 19, "o", False)])
        self.assertEqual(closed(deeds, 0, 99, [("z", 0, "l", False)]), [("a", 15, "o", False)])

    def test_what_is_done_is_not_changed(self):
        done = [("z", 0, "l", False)]
        closed((A, B, gone("r", 10)), 0, 99, done)
        self.assertEqual(done, [("z", 0, "l", False)])

    def test_all_days_at_once_go_as_the_plan(self):
        for seed in range(40):
            deeds = busy_deeds(seed, 40)
            done = closed(shuffled(deeds, seed), 0, 10 ** 6, [])
            rows = sorted([row for row in plan(deeds) if row[1] is not None])
            self.assertEqual(sorted(row[:3] for row in done), rows)
            self.assertTrue(all(is_right(deeds, done, place) for place in range(len(done))))

    def test_in_several_turns_as_in_one(self):
        for seed in range(20):
            deeds = busy_deeds(seed, 40)
            done = []
            for first, last in ((0, 3), (4, 4), (5, 11), (12, 30), (31, 10 ** 6)):
                done = done + closed(deeds, first, last, done)
                self.assertEqual(there_by(deeds, last, done), there(deeds, last))
            self.assertEqual(done, closed(deeds, 0, 10 ** 6, []))


class TestByHand(unittest.TestCase):
    def test_no_call_is_needed(self):
        for deeds in in_all_orders((A, B)):
            self.assertEqual(by_hand(deeds, 5, [], "a"), ("a", 5, None, True))
            self.assertEqual(by_hand(deeds, 9, [("a", 5, None, True)], "b"), ("b", 9, None, True))

    def test_no_paper(self):
        for thing in NO_PAPERS + ("b", "k"):
            with self.assertRaises(NoPaper, msg=repr(thing)):
                by_hand((A, B), 8, [], thing)
        with self.assertRaises(NoPaper):
            by_hand((A, B), 9, [("a", 9, None, True)], "a")

    def test_must_stay(self):
        deeds = (A, keep("t", 30), keep("s", 20), keep("q", 2), ("hold", 0, "h", ("paper", "a"), False), NEEDS)
        for day, rule in ((6, "q"), (7, "s"), (24, "s"), (25, "t")):
            for others in in_all_orders(deeds):
                with self.assertRaises(MustStay) as caught:
                    by_hand(others, day, [], "a")
                self.assertEqual(caught.exception.rule, rule)

    def test_must_stay_as_far_as_goings_go(self):
        deeds = (A, B, ("rule", 0, "w", ("while", "k")))
        with self.assertRaises(MustStay):
            by_hand(deeds, 9, [], "b")
        self.assertEqual(by_hand(deeds, 9, [("a", 9, None, True)], "b"), ("b", 9, None, True))

    def test_held(self):
        deeds = (A, ("hold", 0, "i", ("paper", "a"), False), ("hold", 0, "h", ("kind", "k"), True), ("lift", 20, "h"), NEEDS)
        for day, hold in ((5, "h"), (19, "h"), (20, "i")):
            for others in in_all_orders(deeds):
                with self.assertRaises(Held) as caught:
                    by_hand(others, day, [], "a")
                self.assertEqual(caught.exception.hold, hold)

    def test_leaves(self):
        deeds = (A, NEEDS, ("leave", 7, "y", "k"), ("leave", 7, "x", "k"), ("leave", 5, "w", "m"))
        for others in in_all_orders(deeds):
            with self.assertRaises(NoLeave):
                by_hand(others, 6, [], "a")
            self.assertEqual(by_hand(others, 7, [], "a"), ("a", 7, "x", True))
            self.assertEqual(by_hand(others, 8, [("z", 7, "x", True)], "a"), ("a", 8, "y", True))
            with self.assertRaises(NoLeave):
                by_hand(others, 8, [("z", 7, "x", True), ("q", 7, "y", True)], "a")
        self.assertEqual(by_hand(deeds[:1] + deeds[2:], 8, [], "a"), ("a", 8, None, True))

    def test_there(self):
        self.assertEqual([there_by((B, A), day, []) for day in (4, 5, 8, 9)], [(), ("a",), ("a",), ("a", "b")])
        self.assertEqual(there_by((B, A), 9, [("a", 5, None, True)]), ("b",))
        self.assertEqual(there_by((), 9, []), ())


class TestRight(unittest.TestCase):
    def right(self, deeds, done, *truths):
        for others in in_all_orders(deeds):
            self.assertEqual([is_right(others, done, place) for place in range(len(done))], list(truths))

    def test_called_or_by_hand(self):
        self.right((A, gone("r", 10)), [("a", 15, None, False)], True)
        self.right((A, gone("r", 10)), [("a", 14, None, False)], False)
        self.right((A, gone("r", 10)), [("a", 14, None, True)], True)
        self.right((A,), [("a", 15, None, False)], False)
        self.right((A,), [("a", 15, None, True)], True)

    def test_known_and_come(self):
        self.right((gone("r", 0),), [("a", 15, None, True)], False)
        self.right((A,), [("a", 5, None, True)], True)
        self.right((A,), [("a", 4, None, True)], False)

    def test_called_to_stay_or_held(self):
        for by in (True, False):
            self.right((A, gone("r", 0), keep("s", 11)), [("a", 15, None, by)], False)
            self.right((A, gone("r", 0), keep("s", 10)), [("a", 15, None, by)], True)
            self.right((A, gone("r", 0), ("hold", 15, "h", ("kind", "k"), False)), [("a", 15, None, by)], False)
            self.right((A, gone("r", 0), ("hold", 16, "h", ("kind", "k"), False)), [("a", 15, None, by)], True)

    def test_as_far_as_the_goings_done_ahead_of_it_go(self):
        follows = (A, B, ("rule", 0, "f", ("follow", "k")))
        waits = (A, B, ("rule", 0, "w", ("while", "k")))
        first, second = ("a", 20, None, True), ("b", 20, None, False)
        self.right(follows, [first, second], True, True)
        self.right(follows, [second, first], False, True)
        first, second = ("a", 20, None, True), ("b", 20, None, True)
        self.right(waits, [first, second], True, True)
        self.right(waits, [second, first], False, True)

    def test_the_leave_that_it_used_up(self):
        deeds = (A, NEEDS, ("leave", 9, "l", "k"), ("leave", 9, "m", "m"), ("leave", 10, "n", "k"))
        for day, leave, truth in (
            (9, "l", True), (10, "n", True), (9, "n", False), (20, "m", False), (20, "o", False), (20, None, False),
        ):
            self.right(deeds, [("a", day, leave, True)], truth)
        self.right(deeds[:1], [("a", 9, None, True)], True)
        self.right(deeds[:1], [("a", 9, "gone", True)], True)
        # A happening to a paper of the leave's name is no leave.
        self.right((A, NEEDS, ("happens", 9, "l", "k")), [("a", 9, "l", True)], False)

    def test_the_act_by_which_it_turned(self):
        done = [("b", 20, None, True), ("a", 20, None, True)]
        self.assertEqual(judged((A, B), done, {}, 7), {})
        self.assertEqual(judged((B,), done, {}, 7), {"a": 7})
        self.assertEqual(judged((), done, {"a": 7}, 8), {"a": 7, "b": 8})
        # What turned right again turns anew.
        self.assertEqual(judged((A,), done, {"a": 7, "b": 8}, 9), {"b": 8})
        self.assertEqual(judged((), done, {"b": 8}, 10), {"a": 10, "b": 8})

    def test_rows_in_the_order_in_which_they_were_done(self):
        done = [("b", 20, None, True), ("c", 20, None, True), ("a", 21, None, True)]
        self.assertEqual(wrong_rows(done, {"a": 4, "b": 9}), (("b", 20, 9), ("a", 21, 4)))
        self.assertEqual(wrong_rows(done, {}), ())


if __name__ == "__main__":
    unittest.main()
