import unittest

from goneday.days import day_of
from goneday.errors import NoPaper
from goneday.standing import covering, holds_on, reckoning, rules_on
from tests.samples import NO_PAPERS, in_all_orders, shuffled

FAR = 10 ** 9

RULED = (
    ("rule", 10, "r", ("while", "k")),
    ("rule", 20, "r", ("follow", "m")),
    ("end", 30, "r"),
    ("rule", 40, "r", ("leave", "k")),
    ("end", 5, "r"),
    ("rule", 15, "a", ("keep", "k", ("coming",), 1, "days")),
    ("end", 0, "never"),
)

HELD = (
    ("paper", 100, "a", "k", ()),
    ("paper", 101, "b", "m", ("a",)),
    ("paper", 102, "c", "k", ("b",)),
    ("paper", 103, "d", "n", ("c", "ghost")),
    ("hold", 10, "h", ("paper", "b"), False),
    ("hold", 20, "h", ("paper", "b"), True),
    ("hold", 30, "h", ("kind", "k"), False),
    ("lift", 40, "h"),
    ("hold", 50, "h", ("kind", "m"), True),
    ("lift", 60, "h"),
    ("hold", 20, "g", ("paper", "ghost"), True),
    ("lift", 0, "never"),
)


class TestRules(unittest.TestCase):
    def stand(self, day, *rules):
        for deeds in in_all_orders(RULED):
            self.assertEqual(rules_on(deeds, day), rules, day)

    def test_told_changed_ended_and_told_again(self):
        keep = ("a", ("keep", "k", ("coming",), 1, "days"))
        for day in (0, 4, 5, 9):
            self.stand(day)
        for day in (10, 11, 14):
            self.stand(day, ("r", ("while", "k")))
        for day in (15, 16, 19):
            self.stand(day, keep, ("r", ("while", "k")))
        for day in (20, 21, 29):
            self.stand(day, keep, ("r", ("follow", "m")))
        for day in (30, 31, 39):
            self.stand(day, keep)
        for day in (40, 41, 99999, 100000, FAR):
            self.stand(day, keep, ("r", ("leave", "k")))

    def test_rising_by_names(self):
        names = ("b", "z", "ab", "a", "zz")
        deeds = tuple(("rule", 40 - place, name, ("while", "k")) for place, name in enumerate(names))
        for others in in_all_orders(deeds):
            self.assertEqual([name for name, parts in rules_on(others, 40)], ["a", "ab", "b", "z", "zz"])

    def test_no_deeds(self):
        self.assertEqual(rules_on((), 0), ())
        self.assertEqual(holds_on((), FAR), ())

    def test_rules_and_holds_of_one_name_are_apart(self):
        deeds = (
            ("rule", 1, "x", ("while", "k")), ("lift", 2, "x"), ("hold", 3, "x", ("kind", "k"), False), ("end", 4, "x"),
            ("leave", 5, "x", "k"), ("paper", 6, "x", "k", ()), ("happens", 7, "x", "x"),
        )
        for others in in_all_orders(deeds):
            self.assertEqual(rules_on(others, 3), (("x", ("while", "k")),))
            self.assertEqual(rules_on(others, 4), ())
            self.assertEqual(holds_on(others, 2), ())
            self.assertEqual(holds_on(others, 9), (("x", ("kind", "k"), False),))


class TestHolds(unittest.TestCase):
    def test_told_changed_lifted_and_told_again(self):
        ghost = ("g", ("paper", "ghost"), True)
        stretches = (
            (0, 9, ()),
            (10, 19, (("h", ("paper", "b"), False),)),
            (20, 29, (ghost, ("h", ("paper", "b"), True))),
            (30, 39, (ghost, ("h", ("kind", "k"), False))),
            (40, 49, (ghost,)),
            (50, 59, (ghost, ("h", ("kind", "m"), True))),
            (60, FAR, (ghost,)),
        )
        for deeds in in_all_orders(HELD):
            for first, last, told in stretches:
                for day in (first, first + 1, last):
                    self.assertEqual(holds_on(deeds, day), told, day)

    def test_rising_by_names(self):
        deeds = tuple(("hold", 40 - place, name, ("kind", "k"), True) for place, name in enumerate(("b", "z", "ab", "a")))
        deeds = deeds + (("paper", 0, "p", "k", ()),)
        for others in in_all_orders(deeds):
            self.assertEqual([row[0] for row in holds_on(others, 40)], ["a", "ab", "b", "z"])
            self.assertEqual(covering(others, 40, "p"), ("a", "ab", "b", "z"))


class TestCovering(unittest.TestCase):
    def covered(self, day, *names):
        for deeds in in_all_orders(HELD):
            for name in "abcd":
                self.assertEqual(covering(deeds, day, name), ("h",) if name in names else (), (day, name))

    def test_over_a_paper(self):
        self.covered(9)
        self.covered(10, "b")
        self.covered(19, "b")

    def test_over_a_paper_deep(self):
        self.covered(20, "b", "c", "d")
        self.covered(29, "b", "c", "d")

    def test_over_a_kind(self):
        self.covered(30, "a", "c")
        self.covered(39, "a", "c")

    def test_over_a_kind_deep(self):
        self.covered(50, "b", "c", "d")
        self.covered(59, "b", "c", "d")

    def test_lifted(self):
        for day in (0, 40, 41, 49, 60, 102, FAR):
            self.covered(day)

    def test_deep_over_several_of_a_kind(self):
        deeds = HELD + (("hold", 70, "h", ("kind", "k"), True),)
        for others in in_all_orders(deeds):
            self.assertEqual([covering(others, 70, name) for name in "abcd"], [("h",)] * 4)

    def test_before_and_behind_the_coming(self):
        deeds = (("paper", 50, "a", "k", ()), ("hold", 3, "h", ("paper", "a"), False), ("hold", 4, "i", ("kind", "k"), True))
        for others in in_all_orders(deeds):
            self.assertEqual(covering(others, 2, "a"), ())
            self.assertEqual(covering(others, 3, "a"), ("h",))
            for day in (4, 49, 50, 51, FAR):
                self.assertEqual(covering(others, day, "a"), ("h", "i"))

    def test_a_paper_that_never_comes_has_nothing_made_of_it(self):
        deeds = (("paper", 5, "a", "k", ("ghost",)), ("hold", 0, "h", ("paper", "ghost"), True))
        self.assertEqual(covering(deeds, 9, "a"), ())
        self.assertEqual(holds_on(deeds, 9), (("h", ("paper", "ghost"), True),))
        with self.assertRaises(NoPaper):
            covering(deeds, 9, "ghost")

    def test_a_maker_that_does_not_count_hands_nothing_on(self):
        deeds = (("paper", 5, "a", "k", ("b",)), ("paper", 5, "b", "m", ()), ("hold", 0, "h", ("paper", "b"), True),
                 ("hold", 0, "i", ("kind", "m"), True))
        for others in in_all_orders(deeds):
            self.assertEqual(covering(others, 9, "a"), ())
            self.assertEqual(covering(others, 9, "b"), ("h", "i"))

    def test_a_name_that_is_both_paper_and_kind(self):
        deeds = (("paper", 0, "x", "y", ()), ("paper", 0, "y", "x", ()),
                 ("hold", 0, "h", ("paper", "x"), False), ("hold", 0, "i", ("kind", "x"), False))
        self.assertEqual(covering(deeds, 0, "x"), ("h",))
        self.assertEqual(covering(deeds, 0, "y"), ("i",))

    def test_by_many_ways(self):
        names = ["abcdefgh"[place // 8] + "abcdefgh"[place % 8] for place in range(39)]
        deeds = tuple(
            ("paper", place, name, "k", tuple(names[max(0, place - 4):place])) for place, name in enumerate(names)
        ) + (("hold", 0, "h", ("paper", names[3]), True),)
        for others in (deeds, deeds[::-1], shuffled(deeds, 1)):
            for place, name in enumerate(names):
                self.assertEqual(covering(others, 5, name), ("h",) if place >= 3 else ())


def parts(since, many=0, unit="days", word="keep", kind="k"):
    return (word, kind, since, many, unit)


class TestReckoning(unittest.TestCase):
    deeds = (
        ("paper", 50, "a", "k", ()),
        ("paper", 51, "b", "k", ()),
        ("happens", 40, "a", "read"),
        ("happens", 60, "a", "read"),
        ("happens", 70, "a", "read"),
        ("happens", 65, "a", "sent"),
        ("happens", 30, "b", "read"),
        ("happens", 20, "ghost", "read"),
    )

    def reckons(self, since, day, answer):
        for deeds in in_all_orders(self.deeds):
            self.assertEqual(reckoning(deeds, parts(since), "a", day), answer, (since, day))

    def test_since_the_coming(self):
        for day in (0, 49, 50, 51, 99999, FAR):
            self.reckons(("coming",), day, 50)

    def test_since_the_first_happening(self):
        for day in (0, 20, 30, 39):
            self.reckons(("first", "read"), day, None)
        for day in (40, 41, 60, 69, 70, 71, FAR):
            self.reckons(("first", "read"), day, 40)

    def test_since_the_last_happening(self):
        for day in (0, 39):
            self.reckons(("last", "read"), day, None)
        for first, last, answer in ((40, 59, 40), (60, 69, 60), (70, FAR, 70)):
            for day in (first, first + 1, last):
                self.reckons(("last", "read"), day, answer)

    def test_another_happening(self):
        for word in ("first", "last"):
            self.reckons((word, "sent"), 64, None)
            self.reckons((word, "sent"), 65, 65)
            self.reckons((word, "lost"), FAR, None)

    def test_a_happening_of_whatever_name(self):
        for name in ("coming", "first", "last", "days", "a", "k"):
            deeds = (("paper", 5, "a", "k", ()), ("happens", 8, "a", name))
            for word in ("first", "last"):
                self.assertEqual(reckoning(deeds, parts((word, name)), "a", 7), None)
                self.assertEqual(reckoning(deeds, parts((word, name)), "a", 8), 8)

    def test_other_deeds_with_the_same_names_are_no_happenings(self):
        deeds = (("paper", 5, "a", "read", ()), ("leave", 6, "a", "read"), ("rule", 6, "a", ("while", "read")),
                 ("hold", 6, "a", ("kind", "read"), True))
        for word in ("first", "last"):
            self.assertEqual(reckoning(deeds, parts((word, "read")), "a", 9), None)

    def test_units(self):
        deeds = (("paper", day_of(2004, 2, 29), "a", "k", ()), ("happens", day_of(2004, 12, 31), "a", "read"))
        rows = (
            (("coming",), 0, "days", (2004, 2, 29)), (("coming",), 1, "days", (2004, 3, 1)),
            (("coming",), 12, "months", (2005, 2, 28)), (("coming",), 1, "months", (2004, 3, 29)),
            (("coming",), 1, "years", (2005, 2, 28)), (("coming",), 999, "years", (3003, 2, 28)),
            (("first", "read"), 2, "months", (2005, 2, 28)), (("last", "read"), 999, "months", (2088, 3, 31)),
            (("first", "read"), 999, "days", (2007, 9, 26)), (("last", "read"), 1, "years", (2005, 12, 31)),
        )
        for since, many, unit, date in rows:
            for word in ("keep", "gone"):
                told = reckoning(deeds, parts(since, many, unit, word), "a", FAR)
                self.assertEqual(told, day_of(*date), (since, many, unit))

    def test_whatever_the_kind(self):
        for kind in ("k", "m", "a"):
            for word in ("keep", "gone"):
                self.assertEqual(reckoning(self.deeds, parts(("coming",), 7, "days", word, kind), "a", 60), 57)
                self.assertEqual(reckoning(self.deeds, parts(("first", "read"), 7, "days", word, kind), "b", 60), 37)

    def test_the_rule_need_not_be_told(self):
        told = self.deeds + (("rule", 99, "r", parts(("coming",), 7)), ("end", 100, "r"))
        for day in (0, 99, 100):
            self.assertEqual(reckoning(told, parts(("coming",), 7), "a", day), 57)


class TestNoPaper(unittest.TestCase):
    def test_things_of_any_kind(self):
        for thing in NO_PAPERS + ("ghost", "h", "k", "m"):
            for deeds in ((), HELD, HELD + (("happens", 3, "ghost", "read"),)):
                with self.assertRaises(NoPaper, msg=repr(thing)):
                    covering(deeds, 30, thing)
                for since in (("coming",), ("first", "read"), ("last", "read")):
                    with self.assertRaises(NoPaper, msg=repr(thing)):
                        reckoning(deeds, parts(since), thing, 30)


class TestKinds(unittest.TestCase):
    def test_all_is_told_in_tuples(self):
        for told in (rules_on(RULED, 20), holds_on(HELD, 20), covering(HELD, 20, "b")):
            self.assertIs(type(told), tuple)
        for row in rules_on(RULED, 20) + holds_on(HELD, 20):
            self.assertIs(type(row), tuple)


if __name__ == "__main__":
    unittest.main()
