import unittest

from goneday.calls import goes, needs_leave, stays
from goneday.errors import NoPaper
from tests.samples import NO_PAPERS, in_all_orders

FAR = 10 ** 9


class Calling(unittest.TestCase):
    def calls(self, ask, deeds, day, paper, gone, *answer):
        for others in in_all_orders(deeds):
            handed = dict(gone)
            told = ask(others, day, paper, handed)
            self.assertEqual(told, answer, (ask, day, paper, gone))
            self.assertIs(type(told), tuple)
            self.assertEqual(list(handed.items()), list(gone.items()))


class TestKeep(Calling):
    def test_by_the_reckoning_up_to_the_day_ahead_of_it(self):
        deeds = (("paper", 10, "a", "k", ()), ("rule", 0, "r", ("keep", "k", ("coming",), 5, "days")))
        for day in (10, 11, 14):
            self.calls(stays, deeds, day, "a", {}, ("r", 15))
        for day in (0, 9, 15, 16, 99999, FAR):
            self.calls(stays, deeds, day, "a", {})
        for day in (0, 10, 14, 15, 16, FAR):
            self.calls(goes, deeds, day, "a", {})

    def test_by_none(self):
        for word in ("first", "last"):
            deeds = (
                ("paper", 10, "a", "k", ()), ("happens", 20, "a", "read"),
                ("rule", 0, "r", ("keep", "k", (word, "read"), 5, "days")),
            )
            self.calls(stays, deeds, 9, "a", {})
            for day in (10, 19):
                self.calls(stays, deeds, day, "a", {}, ("r", None))
            for day in (20, 24):
                self.calls(stays, deeds, day, "a", {}, ("r", 25))
            for day in (25, 26, FAR):
                self.calls(stays, deeds, day, "a", {})

    def test_a_later_happening_calls_anew(self):
        deeds = (
            ("paper", 10, "a", "k", ()), ("happens", 5, "a", "read"), ("happens", 30, "a", "read"),
            ("rule", 0, "r", ("keep", "k", ("last", "read"), 7, "days")),
        )
        self.calls(stays, deeds, 10, "a", {}, ("r", 12))
        self.calls(stays, deeds, 12, "a", {})
        self.calls(stays, deeds, 30, "a", {}, ("r", 37))
        self.calls(stays, deeds, 37, "a", {})

    def test_kept_for_no_days(self):
        deeds = (("paper", 10, "a", "k", ()), ("rule", 0, "r", ("keep", "k", ("coming",), 0, "days")))
        self.calls(stays, deeds, 10, "a", {})


class TestGone(Calling):
    def test_by_the_reckoning_from_it_on(self):
        deeds = (("paper", 10, "a", "k", ()), ("rule", 0, "r", ("gone", "k", ("coming",), 5, "days")))
        for day in (0, 9, 10, 14):
            self.calls(goes, deeds, day, "a", {})
        for day in (15, 16, 99999, FAR):
            self.calls(goes, deeds, day, "a", {}, ("r", 15))
        for day in (10, 14, 15, 16):
            self.calls(stays, deeds, day, "a", {})

    def test_never_by_none(self):
        for word in ("first", "last"):
            deeds = (
                ("paper", 10, "a", "k", ()), ("happens", 20, "a", "read"),
                ("rule", 0, "r", ("gone", "k", (word, "read"), 5, "days")),
            )
            for day in (10, 19, 20, 24):
                self.calls(goes, deeds, day, "a", {})
            for day in (25, FAR):
                self.calls(goes, deeds, day, "a", {}, ("r", 25))

    def test_a_reckoning_ahead_of_the_coming(self):
        deeds = (
            ("paper", 10, "a", "k", ()), ("happens", 2, "a", "read"),
            ("rule", 0, "r", ("gone", "k", ("first", "read"), 1, "days")),
        )
        self.calls(goes, deeds, 9, "a", {})
        self.calls(goes, deeds, 10, "a", {}, ("r", 3))

    def test_on_the_day_of_coming(self):
        deeds = (("paper", 10, "a", "k", ()), ("rule", 0, "r", ("gone", "k", ("coming",), 0, "days")))
        self.calls(goes, deeds, 9, "a", {})
        self.calls(goes, deeds, 10, "a", {}, ("r", 10))


# In order the makers are z, m, b: neither rising nor as they are told.
CHILD = (
    ("paper", 1, "z", "other", ()),
    ("paper", 2, "m", "other", ()),
    ("paper", 3, "b", "other", ()),
    ("paper", 10, "child", "k", ("b", "ghost", "m", "z")),
    ("paper", 10, "orphan", "k", ("ghost", "younger")),
    ("paper", 11, "younger", "k", ()),
    ("rule", 0, "w", ("while", "k")),
    ("rule", 0, "f", ("follow", "k")),
)


class TestWhile(Calling):
    def test_by_the_first_maker_that_has_not_gone(self):
        rows = (
            ({}, "z"), ({"z": 5}, "m"), ({"m": 5}, "z"), ({"z": 5, "m": 6}, "b"), ({"z": 20, "m": 21}, "b"),
            ({"z": 22, "m": 5, "b": 5}, "z"), ({"z": 20, "m": 21, "b": 22}, "b"), ({"b": 5, "m": 21}, "z"),
        )
        for gone, by in rows:
            self.calls(stays, CHILD, 21, "child", gone, ("w", by))

    def test_on_the_edge_of_the_day(self):
        all_gone = {"z": 5, "m": 20, "b": 19}
        for day in (10, 18, 19):
            self.calls(stays, CHILD, day, "child", all_gone, ("w", "m"))
        for day in (20, 21, FAR):
            self.calls(stays, CHILD, day, "child", all_gone)

    def test_not_come(self):
        for gone in ({}, {"z": 1}):
            self.calls(stays, CHILD, 9, "child", gone)
            self.calls(goes, CHILD, 9, "child", gone)

    def test_without_makers_that_count(self):
        for gone in ({}, {"ghost": 1, "younger": 1}):
            self.calls(stays, CHILD, 30, "orphan", gone)
            self.calls(goes, CHILD, 30, "orphan", gone)


class TestFollow(Calling):
    def test_by_the_first_maker_that_has_gone(self):
        rows = (
            ({"z": 5}, "z"), ({"m": 5}, "m"), ({"b": 5}, "b"), ({"b": 5, "m": 9}, "m"),
            ({"z": 30, "m": 21, "b": 1}, "m"),
            ({"z": 21, "m": 1, "b": 1}, "z"), ({"z": 22, "m": 22, "b": 21}, "b"),
        )
        for gone, by in rows:
            self.calls(goes, CHILD, 21, "child", gone, ("f", by))

    def test_on_the_edge_of_the_day(self):
        for day in (10, 19):
            self.calls(goes, CHILD, day, "child", {"m": 20})
        for day in (20, 21, FAR):
            self.calls(goes, CHILD, day, "child", {"m": 20}, ("f", "m"))

    def test_none_gone(self):
        for gone in ({}, {"z": 22}):
            self.calls(goes, CHILD, 21, "child", gone)


class TestGoings(Calling):
    def test_other_names_are_not_looked_at(self):
        gone = {"ghost": 1, "child": 2, "orphan": 3, "younger": 4, "w": 5, "k": 6, "nobody": "at all"}
        self.calls(stays, CHILD, 21, "child", gone, ("w", "z"))
        self.calls(goes, CHILD, 21, "child", gone)

    def test_a_paper_that_has_itself_gone_is_called_all_the_same(self):
        deeds = CHILD + (
            ("rule", 0, "g", ("gone", "k", ("coming",), 1, "days")),
            ("rule", 0, "s", ("keep", "k", ("coming",), 99, "days")),
        )
        for gone in ({"m": 3}, {"m": 3, "child": 12}, {"m": 3, "child": 10}):
            self.calls(stays, deeds, 12, "child", gone, ("s", 109), ("w", "z"))
            self.calls(goes, deeds, 12, "child", gone, ("f", "m"), ("g", 11))


class TestRules(Calling):
    def test_several_rising_by_names(self):
        names = ("e", "b", "aa", "d", "a", "c", "zz", "z")
        numbered = list(enumerate(names))
        keeps = tuple(("rule", 3, name, ("keep", "k", ("coming",), 9 + place, "days")) for place, name in numbered)
        gones = tuple(("rule", 3, name, ("gone", "k", ("coming",), place, "days")) for place, name in numbered)
        paper = (("paper", 10, "p", "k", ()),)
        self.calls(stays, paper + keeps, 18, "p", {}, ("a", 23), ("aa", 21), ("b", 20), ("c", 24), ("d", 22), ("e", 19),
                   ("z", 26), ("zz", 25))
        self.calls(goes, paper + gones, 14, "p", {}, ("a", 14), ("aa", 12), ("b", 11), ("d", 13), ("e", 10))

    def test_only_rules_of_the_paper_s_kind(self):
        deeds = (
            ("paper", 0, "maker", "x", ()), ("paper", 1, "p", "k", ("maker",)),
            ("rule", 0, "a", ("keep", "m", ("coming",), 99, "days")), ("rule", 0, "b", ("while", "m")),
            ("rule", 0, "c", ("gone", "m", ("coming",), 0, "days")), ("rule", 0, "d", ("follow", "m")),
            ("rule", 0, "e", ("keep", "p", ("coming",), 99, "days")), ("rule", 0, "f", ("leave", "m")),
        )
        for gone in ({}, {"maker": 0}):
            self.calls(stays, deeds, 5, "p", gone)
            self.calls(goes, deeds, 5, "p", gone)
        self.assertIs(needs_leave(deeds, 5, "p"), False)

    def test_only_rules_that_stand(self):
        deeds = (
            ("paper", 0, "p", "k", ()), ("rule", 5, "r", ("keep", "k", ("coming",), 99, "days")),
            ("rule", 10, "r", ("gone", "k", ("coming",), 3, "days")), ("end", 15, "r"),
        )
        for day in (0, 4, 10, 15, 16):
            self.calls(stays, deeds, day, "p", {})
        for day in (5, 9):
            self.calls(stays, deeds, day, "p", {}, ("r", 99))
        for day in (0, 4, 5, 9, 15, 16):
            self.calls(goes, deeds, day, "p", {})
        for day in (10, 14):
            self.calls(goes, deeds, day, "p", {}, ("r", 3))

    def test_a_leave_rule_calls_nothing(self):
        deeds = (("paper", 0, "a", "k", ()), ("paper", 1, "p", "k", ("a",)), ("rule", 0, "r", ("leave", "k")))
        for gone in ({}, {"a": 1}):
            self.calls(stays, deeds, 5, "p", gone)
            self.calls(goes, deeds, 5, "p", gone)

    def test_holds_and_leaves_change_no_call(self):
        others = (("hold", 0, "h", ("kind", "k"), True), ("leave", 0, "l", "k"), ("rule", 0, "x", ("leave", "k")))
        deeds = CHILD + others
        self.calls(stays, deeds, 21, "child", {"z": 5}, ("w", "m"))
        self.calls(goes, deeds, 21, "child", {"z": 5}, ("f", "z"))


class TestNeedsLeave(unittest.TestCase):
    deeds = (
        ("paper", 50, "p", "k", ()),
        ("paper", 50, "q", "m", ()),
        ("rule", 10, "r", ("leave", "k")),
        ("end", 60, "r"),
        ("rule", 70, "r", ("leave", "m")),
        ("rule", 80, "s", ("leave", "k")),
        ("rule", 90, "s", ("while", "k")),
        ("leave", 0, "l", "k"),
    )

    def test_while_a_leave_rule_of_its_kind_stands(self):
        rows = (
            (0, False, False), (9, False, False), (10, True, False), (49, True, False), (50, True, False),
            (59, True, False), (60, False, False), (69, False, False), (70, False, True), (80, True, True),
            (89, True, True), (90, False, True), (FAR, False, True),
        )
        for deeds in in_all_orders(self.deeds):
            for day, one, other in rows:
                self.assertIs(needs_leave(deeds, day, "p"), one, day)
                self.assertIs(needs_leave(deeds, day, "q"), other, day)


class TestNoPaper(unittest.TestCase):
    def test_things_of_any_kind(self):
        told = CHILD + (("happens", 0, "ghost", "read"), ("hold", 0, "h", ("paper", "ghost"), True))
        for deeds in ((), CHILD, told):
            for thing in NO_PAPERS + ("ghost", "k", "w", "h"):
                for day in (0, 21):
                    for ask in (stays, goes):
                        with self.assertRaises(NoPaper, msg=repr(thing)):
                            ask(deeds, day, thing, {"z": 1})
                    with self.assertRaises(NoPaper, msg=repr(thing)):
                        needs_leave(deeds, day, thing)


if __name__ == "__main__":
    unittest.main()
