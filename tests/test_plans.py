import unittest

from goneday.days import day_of
from goneday.plans import plan, there
from tests.samples import DEEDS, gone, in_all_orders, keep

FAR = 10 ** 9


class Planning(unittest.TestCase):
    def plans(self, deeds, *rows):
        for others in in_all_orders(deeds):
            told = plan(others)
            self.assertEqual(told, rows)
            for part in (told,) + told:
                self.assertIs(type(part), tuple)


class TestGoing(Planning):
    def test_no_deeds(self):
        self.assertEqual(plan(()), ())

    def test_no_papers(self):
        self.plans((gone("r", 0), ("leave", 0, "l", "k"), ("happens", 3, "a", "read")))

    def test_never(self):
        self.plans((("paper", 3, "a", "k", ()),), ("a", None, None))
        self.plans((("paper", 3, "a", "k", ()), gone("r", 0, "m")), ("a", None, None))
        self.plans((("paper", 3, "a", "k", ()), gone("r", 5), ("end", 8, "r")), ("a", None, None))
        self.plans(DEEDS, ("a", None, None), ("b", None, None), ("abcdefgh", None, None))

    def test_on_the_day_of_the_coming(self):
        self.plans((("paper", 3, "a", "k", ()), gone("r", 0)), ("a", 3, None))
        self.plans((("paper", 3, "a", "k", ()), gone("r", 0, day=3)), ("a", 3, None))

    def test_from_the_reckoning_on(self):
        self.plans((("paper", 3, "a", "k", ()), gone("r", 5)), ("a", 8, None))
        self.plans((("paper", 3, "a", "k", ()), gone("r", 5, day=8)), ("a", 8, None))
        self.plans((("paper", 3, "a", "k", ()), gone("r", 5, day=20)), ("a", 20, None))
        self.plans((("paper", 3, "a", "k", ()), gone("r", 5), ("end", 9, "r")), ("a", 8, None))

    def test_from_a_happening(self):
        deeds = (("paper", 3, "a", "k", ()), ("happens", 20, "a", "read"), ("happens", 30, "a", "read"))
        self.plans(deeds + (gone("r", 5, since=("first", "read")),), ("a", 25, None))
        self.plans(deeds + (gone("r", 5, since=("last", "read")),), ("a", 25, None))
        self.plans(deeds + (gone("r", 15, since=("last", "read")),), ("a", 45, None))
        self.plans(deeds + (gone("r", 5, since=("last", "sent")),), ("a", None, None))
        self.plans(deeds[:1] + (("happens", 0, "a", "read"), gone("r", 1, since=("last", "read"))), ("a", 3, None))

    def test_by_years_and_far(self):
        deeds = (("paper", day_of(2004, 2, 29), "a", "k", ()), ("paper", 99999, "b", "k", ()))
        self.plans(deeds + (gone("r", 1, unit="years"),),
                   ("a", day_of(2005, 2, 28), None), ("b", day_of(2274, 10, 15), None))
        self.plans(deeds + (gone("r", 999, unit="years"),),
                   ("a", day_of(3003, 2, 28), None), ("b", day_of(3272, 10, 15), None))

    def test_rows_in_order(self):
        deeds = (
            ("paper", 9, "aa", "k", ()), ("paper", 5, "b", "k", ()), ("paper", 5, "a", "m", ()),
            ("paper", 2, "z", "k", ()), gone("r", 1), gone("s", 0, "m"),
        )
        self.plans(deeds, ("z", 3, None), ("a", 5, None), ("b", 6, None), ("aa", 10, None))


class TestOneDay(Planning):
    def test_one_that_follows_goes_on_the_day_of_its_maker(self):
        deeds = (
            ("paper", 1, "a", "k", ()), ("paper", 2, "b", "m", ("a",)), ("paper", 3, "c", "m", ("b",)),
            gone("r", 9), ("rule", 0, "f", ("follow", "m")),
        )
        self.plans(deeds, ("a", 10, None), ("b", 10, None), ("c", 10, None))

    def test_one_that_comes_behind_the_going_of_its_maker(self):
        deeds = (
            ("paper", 1, "a", "k", ()), ("paper", 20, "b", "m", ("a",)), gone("r", 9), ("rule", 0, "f", ("follow", "m")),
        )
        self.plans(deeds, ("a", 10, None), ("b", 20, None))

    def test_a_while_rule_lets_go_on_that_day(self):
        deeds = (
            ("paper", 1, "z", "k", ()), ("paper", 2, "b", "m", ("z",)), ("paper", 2, "c", "m", ("b", "z")),
            gone("r", 9), gone("s", 0, "m"), ("rule", 0, "w", ("while", "m")),
        )
        self.plans(deeds, ("z", 10, None), ("b", 10, None), ("c", 10, None))

    def test_what_is_named_as_a_maker_but_stands_behind_is_none(self):
        deeds = (
            ("paper", 2, "a", "m", ("b",)), ("paper", 2, "b", "k", ()), gone("r", 9), ("rule", 0, "f", ("follow", "m")),
        )
        self.plans(deeds, ("a", None, None), ("b", 11, None))

    def test_on_one_day_the_order_is_by_the_comings_and_not_by_the_names(self):
        deeds = (
            ("paper", 1, "z", "k", ()), ("paper", 2, "a", "k", ("z",)), gone("r", 5, since=("first", "read")),
            ("rule", 0, "w", ("while", "k")), ("happens", 4, "z", "read"), ("happens", 4, "a", "read"),
        )
        self.plans(deeds, ("z", 9, None), ("a", 9, None))

    def test_follows_one_of_several_and_waits_for_all(self):
        deeds = (
            ("paper", 1, "a", "k", ()), ("paper", 5, "b", "k", ()), ("paper", 6, "c", "m", ("a", "b")), gone("r", 9),
            ("rule", 0, "f", ("follow", "m")),
        )
        self.plans(deeds, ("a", 10, None), ("b", 14, None), ("c", 10, None))
        waits = deeds + (("rule", 0, "w", ("while", "m")),)
        self.plans(waits, ("a", 10, None), ("b", 14, None), ("c", 14, None))


class TestBars(Planning):
    paper = (("paper", 3, "a", "k", ()), gone("r", 5))

    def test_a_rule_that_calls_to_stay(self):
        self.plans(self.paper + (keep("s", 20),), ("a", 23, None))
        self.plans(self.paper + (keep("s", 5),), ("a", 8, None))
        self.plans(self.paper + (keep("s", 6),), ("a", 9, None))
        self.plans(self.paper + (keep("s", 20), ("end", 15, "s")), ("a", 15, None))
        self.plans(self.paper + (keep("s", 20, day=8), ("end", 15, "s")), ("a", 15, None))
        self.plans(self.paper + (keep("s", 20, day=9),), ("a", 8, None))
        self.plans(self.paper + (keep("s", 20, "m"),), ("a", 8, None))

    def test_a_rule_that_calls_to_stay_by_none(self):
        stays = self.paper + (keep("s", 2, since=("first", "read")),)
        self.plans(stays, ("a", None, None))
        self.plans(stays + (("happens", 40, "a", "read"),), ("a", 42, None))

    def test_a_while_rule_till_the_maker_has_gone(self):
        deeds = self.paper + (("paper", 1, "m", "m", ()), ("paper", 3, "b", "k", ("m",)), ("rule", 0, "w", ("while", "k")))
        self.plans(deeds, ("m", None, None), ("a", 8, None), ("b", None, None))
        self.plans(deeds + (gone("t", 50, "m"),), ("m", 51, None), ("a", 8, None), ("b", 51, None))

    def test_a_hold_that_covers(self):
        for target in (("paper", "a"), ("kind", "k")):
            for deep in (True, False):
                held = self.paper + (("hold", 4, "h", target, deep),)
                self.plans(held, ("a", None, None))
                self.plans(held + (("lift", 30, "h"),), ("a", 30, None))
                self.plans(held + (("lift", 8, "h"),), ("a", 8, None))
        self.plans(self.paper + (("hold", 8, "h", ("paper", "a"), False),), ("a", None, None))
        self.plans(self.paper + (("hold", 9, "h", ("paper", "a"), False),), ("a", 8, None))
        self.plans(self.paper + (("hold", 0, "h", ("paper", "b"), True),), ("a", 8, None))

    def test_a_deep_hold_covers_what_is_made_of_the_paper(self):
        deeds = self.paper + (("paper", 4, "b", "k", ("a",)), ("paper", 5, "c", "k", ("b",)))
        self.plans(deeds + (("hold", 0, "h", ("paper", "a"), False),), ("a", None, None), ("b", 9, None), ("c", 10, None))
        deep = deeds + (("hold", 0, "h", ("paper", "a"), True),)
        self.plans(deep, ("a", None, None), ("b", None, None), ("c", None, None))
        self.plans(deep + (("lift", 10, "h"),), ("a", 10, None), ("b", 10, None), ("c", 10, None))

    def test_a_hold_that_moves(self):
        deeds = self.paper + (("hold", 0, "h", ("paper", "a"), False), ("hold", 50, "h", ("paper", "b"), False))
        self.plans(deeds, ("a", 50, None))

    def test_a_leave_that_lacks(self):
        asked = self.paper + (("rule", 0, "n", ("leave", "k")),)
        self.plans(asked, ("a", None, None))
        self.plans(asked + (("leave", 8, "l", "k"),), ("a", 8, "l"))
        self.plans(asked + (("leave", 9, "l", "k"),), ("a", 9, "l"))
        self.plans(asked + (("leave", 0, "l", "k"),), ("a", 8, "l"))
        self.plans(asked + (("end", 40, "n"),), ("a", 40, None))
        self.plans(asked + (("leave", 5, "l", "m"),), ("a", None, None))

    def test_each_till_it_is_over(self):
        deeds = self.paper + (
            keep("s", 17), ("hold", 0, "h", ("kind", "k"), False), ("lift", 30, "h"),
            ("rule", 0, "n", ("leave", "k")), ("leave", 40, "l", "k"),
        )
        self.plans(deeds, ("a", 40, "l"))
        self.plans(deeds + (("end", 31, "r"),), ("a", None, None))
        self.plans(deeds + (("end", 31, "r"), gone("q", 1, day=60)), ("a", 60, "l"))


class TestLeaves(Planning):
    def test_of_the_least_day_and_of_one_day_the_least_name(self):
        deeds = tuple(("paper", 1, name, "k", ()) for name in "abcd") + (gone("r", 9), ("rule", 0, "n", ("leave", "k")))
        leaves = (("leave", 4, "z", "k"), ("leave", 5, "y", "k"), ("leave", 5, "x", "k"), ("leave", 6, "a", "k"))
        self.plans(deeds + leaves, ("a", 10, "z"), ("b", 10, "x"), ("c", 10, "y"), ("d", 10, "a"))
        self.plans(deeds + leaves[1:], ("a", 10, "x"), ("b", 10, "y"), ("c", 10, "a"), ("d", None, None))

    def test_each_is_used_up_once(self):
        deeds = (
            ("paper", 1, "a", "k", ()), ("paper", 1, "b", "k", ()), ("paper", 2, "c", "k", ()), gone("r", 9),
            ("rule", 0, "n", ("leave", "k")), ("leave", 0, "l", "k"),
        )
        self.plans(deeds, ("a", 10, "l"), ("b", None, None), ("c", None, None))
        self.plans(deeds + (("leave", 70, "k", "k"),), ("a", 10, "l"), ("b", 70, "k"), ("c", None, None))

    def test_what_is_barred_otherwise_uses_none(self):
        deeds = (
            ("paper", 1, "a", "k", ()), ("paper", 1, "b", "k", ()), ("paper", 2, "c", "k", ()), gone("r", 9),
            ("rule", 0, "n", ("leave", "k")), ("leave", 0, "l", "k"), ("hold", 0, "h", ("paper", "a"), False),
            keep("s", 99, since=("first", "read")), ("happens", 0, "a", "read"), ("happens", 0, "c", "read"),
        )
        self.plans(deeds, ("a", None, None), ("b", None, None), ("c", 99, "l"))

    def test_of_the_paper_s_kind_alone(self):
        deeds = (
            ("paper", 1, "a", "k", ()), ("paper", 1, "b", "m", ()), gone("r", 9), gone("s", 9, "m"),
            ("rule", 0, "n", ("leave", "k")), ("rule", 0, "o", ("leave", "m")), ("leave", 2, "l", "m"),
        )
        self.plans(deeds, ("a", None, None), ("b", 10, "l"))

    def test_a_paper_that_needs_none_uses_none(self):
        deeds = (
            ("paper", 1, "a", "k", ()), ("paper", 1, "b", "m", ()), ("paper", 1, "c", "k", ()), gone("r", 9),
            gone("s", 9, "m"), ("leave", 2, "l", "m"), ("leave", 2, "k", "k"), ("rule", 11, "n", ("leave", "k")),
        )
        self.plans(deeds, ("a", 10, None), ("b", 10, None), ("c", 10, None))

    def test_a_later_leave_for_an_earlier_paper(self):
        deeds = (
            ("paper", 1, "a", "k", ()), ("paper", 2, "b", "k", ()), gone("r", 50, since=("first", "read")),
            ("happens", 30, "a", "read"), ("happens", 10, "b", "read"), ("rule", 0, "n", ("leave", "k")),
            ("leave", 7, "y", "k"), ("leave", 8, "x", "k"),
        )
        self.plans(deeds, ("a", 80, "x"), ("b", 60, "y"))

    def test_two_leave_rules_ask_for_one(self):
        deeds = (
            ("paper", 1, "a", "k", ()), gone("r", 9), ("rule", 0, "n", ("leave", "k")), ("rule", 0, "o", ("leave", "k")),
            ("leave", 7, "y", "k"), ("leave", 8, "x", "k"),
        )
        self.plans(deeds, ("a", 10, "y"))


class TestThere(unittest.TestCase):
    deeds = (
        ("paper", 10, "z", "k", ()), ("paper", 12, "a", "k", ()), ("paper", 12, "never", "m", ()),
        ("paper", 14, "atonce", "n", ()), gone("r", 20), gone("s", 0, "n"),
    )

    def test_from_the_coming_to_the_day_ahead_of_the_going(self):
        rows = (
            (0, ()), (9, ()), (10, ("z",)), (11, ("z",)), (12, ("z", "a", "never")), (13, ("z", "a", "never")),
            (14, ("z", "a", "never")), (29, ("z", "a", "never")), (30, ("a", "never")), (31, ("a", "never")),
            (32, ("never",)), (99999, ("never",)), (100000, ("never",)), (FAR, ("never",)), (10 ** 30, ("never",)),
        )
        for deeds in in_all_orders(self.deeds):
            for day, names in rows:
                told = there(deeds, day)
                self.assertEqual(told, names, day)
                self.assertIs(type(told), tuple)

    def test_no_deeds(self):
        for day in (0, 5, FAR):
            self.assertEqual(there((), day), ())

    def test_far_behind(self):
        deeds = (("paper", 99999, "a", "k", ()), gone("r", 999, unit="years"))
        last = day_of(3272, 10, 15)
        for day, names in ((99998, ()), (99999, ("a",)), (last - 1, ("a",)), (last, ()), (FAR, ())):
            self.assertEqual(there(deeds, day), names, day)


if __name__ == "__main__":
    unittest.main()
