import unittest

from goneday.clashes import clash, clashing
from tests.samples import gone, in_all_orders, keep

FAR = 10 ** 9


class Clashing(unittest.TestCase):
    def clash_is(self, deeds, told):
        for others in in_all_orders(deeds):
            answer = clash(others)
            self.assertEqual(answer, told)
            self.assertIs(type(answer), type(told))

    def clashing_is(self, deeds, *rows):
        for others in in_all_orders(deeds):
            for day, names in rows:
                answer = clashing(others, day)
                self.assertEqual(answer, names, day)
                self.assertIs(type(answer), tuple)


class TestFirst(Clashing):
    def test_none(self):
        paper = ("paper", 5, "a", "k", ())
        for deeds in (
            (), (paper,), (paper, gone("r", 3)), (paper, keep("r", 3)), (paper, keep("r", 3), gone("s", 3)),
            (paper, keep("r", 9), gone("s", 3, "m")), (keep("r", 9), gone("s", 3)),
            (paper, ("rule", 0, "w", ("while", "k")), ("rule", 0, "f", ("follow", "k"))),
        ):
            self.clash_is(deeds, None)

    def test_from_the_reckoning_on(self):
        deeds = (("paper", 5, "a", "k", ()), keep("s", 9), gone("r", 3))
        self.clash_is(deeds, (8, "a", ("s", 14), ("r", 8)))
        self.clashing_is(deeds, (0, ()), (4, ()), (5, ()), (7, ()), (8, ("a",)), (9, ("a",)), (13, ("a",)), (14, ()),
                         (15, ()), (FAR, ()))

    def test_on_the_day_of_the_coming(self):
        deeds = (("paper", 5, "a", "k", ()), keep("s", 1), gone("r", 0))
        self.clash_is(deeds, (5, "a", ("s", 6), ("r", 5)))
        self.clashing_is(deeds, (4, ()), (5, ("a",)), (6, ()))

    def test_by_none(self):
        deeds = (("paper", 5, "a", "k", ()), keep("s", 1, since=("last", "read")), gone("r", 3), ("happens", 20, "a", "read"))
        self.clash_is(deeds, (8, "a", ("s", None), ("r", 8)))
        self.clashing_is(deeds, (7, ()), (8, ("a",)), (19, ("a",)), (20, ("a",)), (21, ()))

    def test_by_makers(self):
        deeds = (
            ("paper", 1, "z", "m", ()), ("paper", 2, "b", "n", ()), ("paper", 3, "c", "m", ()),
            ("paper", 5, "a", "k", ("b", "c", "z")), gone("r", 20, "n"),
            ("rule", 0, "w", ("while", "k")), ("rule", 0, "f", ("follow", "k")),
        )
        self.clash_is(deeds, (22, "a", ("w", "z"), ("f", "b")))
        self.clashing_is(deeds, (21, ()), (22, ("a",)), (FAR, ("a",)))
        self.clashing_is(deeds + (gone("q", 40, "m"),), (41, ("a",)), (42, ("a",)), (43, ()), (44, ()))

    def test_by_day_then_in_order(self):
        deeds = (
            ("paper", 5, "b", "k", ()), ("paper", 5, "c", "k", ()), ("paper", 4, "d", "k", ()), ("paper", 6, "a", "k", ()),
            keep("s", 99), gone("r", 10, since=("first", "read")),
            ("happens", 20, "a", "read"), ("happens", 15, "b", "read"), ("happens", 15, "c", "read"),
            ("happens", 16, "d", "read"),
        )
        self.clash_is(deeds, (25, "b", ("s", 104), ("r", 25)))
        self.clashing_is(deeds, (24, ()), (25, ("b", "c")), (26, ("d", "b", "c")), (29, ("d", "b", "c")),
                         (30, ("d", "b", "c", "a")), (102, ("d", "b", "c", "a")), (103, ("b", "c", "a")), (104, ("a",)),
                         (105, ()))

    def test_the_least_names_of_rules(self):
        deeds = (
            ("paper", 5, "p", "k", ()), keep("t", 70), keep("s", 80), keep("a", 6), keep("b", 90, "m"), gone("z", 8),
            gone("r", 11), gone("q", 9), gone("c", 0, "m"), keep("u", 60), gone("y", 7),
        )
        self.clash_is(deeds, (12, "p", ("s", 85), ("y", 12)))
        self.clash_is(deeds + (keep("aa", 8),), (12, "p", ("aa", 13), ("y", 12)))
        self.clash_is(deeds + (gone("d", 7),), (12, "p", ("s", 85), ("d", 12)))

    def test_when_a_rule_comes_to_stand(self):
        deeds = (("paper", 5, "a", "k", ()), keep("s", 50), gone("r", 3, day=33), ("end", 40, "s"))
        self.clash_is(deeds, (33, "a", ("s", 55), ("r", 8)))
        self.clashing_is(deeds, (32, ()), (33, ("a",)), (39, ("a",)), (40, ()))


class TestBars(Clashing):
    deeds = (("paper", 5, "a", "k", ()), keep("s", 9), gone("r", 3))

    def test_a_paper_that_is_held(self):
        for deep in (True, False):
            held = self.deeds + (("hold", 0, "h", ("paper", "a"), deep),)
            self.clash_is(held, (8, "a", ("s", 14), ("r", 8)))
            self.clashing_is(held, (7, ()), (8, ("a",)), (13, ("a",)), (14, ()), (FAR, ()))

    def test_a_paper_that_lacks_a_leave(self):
        lacks = self.deeds + (("rule", 0, "n", ("leave", "k")),)
        self.clash_is(lacks, (8, "a", ("s", 14), ("r", 8)))
        self.clash_is(lacks + (("leave", 0, "l", "k"),), (8, "a", ("s", 14), ("r", 8)))

    def test_a_hold_or_a_lack_alone_is_no_clash(self):
        deeds = (("paper", 5, "a", "k", ()), gone("r", 3), ("rule", 0, "n", ("leave", "k")))
        self.clash_is(deeds + (("hold", 0, "h", ("paper", "a"), True),), None)
        self.clashing_is(deeds, (8, ()), (9, ()))

    def test_held_till_rules_clash(self):
        deeds = (("paper", 5, "a", "k", ()), gone("r", 3), keep("s", 90, day=30), ("hold", 0, "h", ("paper", "a"), True))
        self.clash_is(deeds, (30, "a", ("s", 95), ("r", 8)))
        # Without the hold it has gone by then.
        self.clash_is(deeds[:3], None)
        self.clash_is(deeds + (("lift", 29, "h"),), None)
        self.clash_is(deeds + (("lift", 30, "h"),), (30, "a", ("s", 95), ("r", 8)))


class TestGone(Clashing):
    def test_none_where_the_paper_has_gone(self):
        deeds = (("paper", 5, "a", "k", ()), ("paper", 20, "b", "k", ()), gone("r", 3), keep("s", 90, day=9))
        self.clash_is(deeds, (23, "b", ("s", 110), ("r", 23)))
        self.clashing_is(deeds, (8, ()), (9, ()), (22, ()), (23, ("b",)), (50, ("b",)), (94, ("b",)), (109, ("b",)), (110, ()))

    def test_on_one_day_what_has_gone_ahead_has_gone(self):
        deeds = (
            ("paper", 1, "a", "k", ()), ("paper", 2, "b", "k", ("a",)), ("rule", 0, "w", ("while", "k")), gone("r", 9),
            ("hold", 0, "h", ("paper", "a"), False), ("lift", 11, "h"),
        )
        self.clash_is(deeds, None)
        self.clash_is(deeds[:-1] + (("lift", 12, "h"),), (11, "b", ("w", "a"), ("r", 11)))


class TestDays(Clashing):
    def test_ahead_of_all_deeds_and_of_none(self):
        deeds = (("paper", 50, "a", "k", ()), keep("s", 9, day=50), gone("r", 3, day=50))
        self.clashing_is(deeds, (0, ()), (49, ()), (52, ()), (53, ("a",)))
        self.clashing_is((), (0, ()), (FAR, ()))

    def test_far_behind(self):
        deeds = (("paper", 99999, "a", "k", ()), ("rule", 3, "s", ("keep", "k", ("first", "read"), 0, "days")), gone("r", 999))
        self.clash_is(deeds, (100998, "a", ("s", None), ("r", 100998)))
        self.clashing_is(deeds, (99999, ()), (100997, ()), (100998, ("a",)), (FAR, ("a",)), (10 ** 30, ("a",)))


if __name__ == "__main__":
    unittest.main()
