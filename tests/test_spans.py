import unittest

from goneday.errors import NoPaper
from goneday.spans import diary, earliest
from tests.samples import NO_PAPERS, gone, in_all_orders, keep

PAPER = ("paper", 5, "a", "k", ())
NEEDS = ("rule", 0, "n", ("leave", "k"))


class TestEarliest(unittest.TestCase):
    def earliest_is(self, deeds, paper, day):
        for others in in_all_orders(deeds):
            self.assertEqual(earliest(others, paper), day)

    def test_a_paper_that_nothing_calls(self):
        self.earliest_is((PAPER,), "a", 5)

    def test_on_the_coming(self):
        self.earliest_is((PAPER, gone("r", 9)), "a", 5)
        self.earliest_is((PAPER, gone("r", 0)), "a", 5)
        self.earliest_is((PAPER, gone("r", 9), keep("s", 20, day=6)), "a", 5)
        self.earliest_is((PAPER, keep("s", 0), ("hold", 6, "h", ("kind", "k"), True)), "a", 5)
        self.earliest_is((PAPER, keep("s", 50, "m"), ("hold", 0, "h", ("kind", "m"), True)), "a", 5)

    def test_later(self):
        self.earliest_is((PAPER, keep("s", 7)), "a", 12)
        self.earliest_is((PAPER, keep("s", 7), gone("r", 90)), "a", 12)
        self.earliest_is((PAPER, ("hold", 0, "h", ("kind", "k"), True), ("lift", 30, "h")), "a", 30)
        self.earliest_is((PAPER, NEEDS, ("leave", 40, "l", "k"), gone("r", 90)), "a", 40)
        self.earliest_is((PAPER, NEEDS, ("end", 41, "n")), "a", 41)

    def test_all_bars_together(self):
        deeds = (
            PAPER, keep("s", 7), ("hold", 11, "h", ("paper", "a"), False), ("lift", 20, "h"), ("rule", 19, "n", ("leave", "k")),
            ("leave", 25, "l", "k"),
        )
        self.earliest_is(deeds, "a", 25)
        # A day between two bars is enough.
        self.earliest_is(deeds[:2] + (("hold", 13, "h", ("paper", "a"), False),) + deeds[3:], "a", 12)

    def test_on_the_day_of_going(self):
        self.earliest_is((PAPER, gone("r", 9), keep("s", 20)), "a", 25)
        self.earliest_is((PAPER, gone("r", 9), NEEDS, ("leave", 14, "l", "k")), "a", 14)
        self.earliest_is((PAPER, gone("r", 9), ("hold", 0, "h", ("paper", "a"), False), ("lift", 14, "h")), "a", 14)

    def test_a_while_rule_up_to_the_day_of_the_maker(self):
        deeds = (("paper", 1, "m", "m", ()), ("paper", 5, "a", "k", ("m",)), ("rule", 0, "w", ("while", "k")))
        self.earliest_is(deeds, "a", None)
        self.earliest_is(deeds + (gone("r", 9, "m"),), "a", 10)

    def test_none(self):
        self.earliest_is((PAPER, keep("s", 7, since=("first", "read"))), "a", None)
        self.earliest_is((PAPER, ("hold", 0, "h", ("kind", "k"), False), gone("r", 1)), "a", None)
        self.earliest_is((PAPER, NEEDS, gone("r", 1), ("leave", 3, "l", "m")), "a", None)

    def test_a_leave_that_another_paper_used_up(self):
        deeds = (
            PAPER, ("paper", 5, "b", "k", ()), gone("r", 9), NEEDS, ("leave", 14, "l", "k"), ("leave", 60, "o", "k"),
        )
        self.earliest_is(deeds, "b", 60)
        self.earliest_is(deeds[:-1], "b", None)
        self.earliest_is(deeds[:-1], "a", 14)

    def test_a_leave_that_another_paper_uses_up_later(self):
        deeds = (PAPER, ("paper", 5, "b", "k", ()), gone("r", 9), NEEDS, ("leave", 8, "l", "k"))
        self.earliest_is(deeds, "b", 8)

    def test_a_leave_that_a_paper_behind_it_uses_up_on_the_day(self):
        deeds = (
            PAPER, ("paper", 6, "b", "k", ()), gone("r", 9, since=("first", "read")), ("happens", 5, "b", "read"),
            NEEDS, ("leave", 14, "l", "k"),
        )
        self.earliest_is(deeds, "a", 14)
        self.earliest_is(deeds, "b", 14)


class TestDiary(unittest.TestCase):
    def diary_is(self, deeds, *stretches):
        for others in in_all_orders(deeds):
            told = diary(others, "a")
            self.assertEqual(told, stretches)
            for part in (told,) + told + tuple(stretch[2] for stretch in told):
                self.assertIs(type(part), tuple)

    def test_never_called(self):
        self.diary_is((PAPER,), (5, None, ("none",)))

    def test_none_where_it_goes_as_it_comes(self):
        self.diary_is((PAPER, gone("r", 0)))

    def test_to_the_day_ahead_of_the_going(self):
        self.diary_is((PAPER, gone("r", 9)), (5, 13, ("none",)))
        self.diary_is((PAPER, gone("r", 1)), (5, 5, ("none",)))

    def test_called_to_stay(self):
        self.diary_is((PAPER, gone("r", 9), keep("s", 20)), (5, 13, ("none",)), (14, 24, ("stays", "s", 25)))
        self.diary_is((PAPER, gone("r", 0), keep("s", 20)), (5, 24, ("stays", "s", 25)))

    def test_by_what_it_is_called_on_each_day(self):
        deeds = (PAPER, gone("r", 0), keep("s", 7, since=("last", "read")), ("happens", 20, "a", "read"),
                 ("happens", 22, "a", "read"))
        self.diary_is(deeds, (5, 19, ("stays", "s", None)), (20, 21, ("stays", "s", 27)), (22, 28, ("stays", "s", 29)))

    def test_by_which_maker_it_is_called_on_each_day(self):
        deeds = (
            ("paper", 1, "y", "m", ()), ("paper", 2, "x", "m", ()), ("paper", 5, "a", "k", ("x", "y")),
            ("rule", 0, "w", ("while", "k")), gone("r", 0), gone("q", 30, "m"),
        )
        self.diary_is(deeds, (5, 30, ("stays", "w", "y")), (31, 31, ("stays", "w", "x")))
        self.diary_is(deeds[:-1], (5, None, ("stays", "w", "y")))

    def test_held(self):
        deeds = (PAPER, gone("r", 9), ("hold", 0, "h", ("kind", "k"), True))
        self.diary_is(deeds, (5, 13, ("none",)), (14, None, ("held", "h")))
        self.diary_is(deeds + (("lift", 99, "h"),), (5, 13, ("none",)), (14, 98, ("held", "h")))

    def test_lacks(self):
        deeds = (PAPER, gone("r", 9), NEEDS)
        self.diary_is(deeds, (5, 13, ("none",)), (14, None, ("lacks", "n")))
        self.diary_is(deeds + (("leave", 50, "l", "k"),), (5, 13, ("none",)), (14, 49, ("lacks", "n")))

    def test_a_leave_that_another_paper_used_up(self):
        deeds = (("paper", 4, "b", "k", ()), PAPER, gone("r", 9), NEEDS, ("leave", 0, "l", "k"))
        self.diary_is(deeds, (5, 13, ("none",)), (14, None, ("lacks", "n")))

    def test_one_reason_behind_the_other(self):
        deeds = (
            PAPER, gone("r", 9), keep("s", 20), ("hold", 24, "h", ("paper", "a"), False), ("lift", 40, "h"),
            ("rule", 39, "n", ("leave", "k")), ("leave", 50, "l", "k"),
        )
        self.diary_is(deeds, (5, 13, ("none",)), (14, 24, ("stays", "s", 25)), (25, 39, ("held", "h")),
                      (40, 49, ("lacks", "n")))

    def test_none_again(self):
        deeds = (PAPER, gone("r", 9), keep("s", 99), ("end", 20, "r"))
        self.diary_is(deeds, (5, 13, ("none",)), (14, 19, ("stays", "s", 104)), (20, None, ("none",)))

    def test_far_behind(self):
        deeds = (("paper", 99999, "a", "k", ()), gone("r", 999))
        self.diary_is(deeds, (99999, 100997, ("none",)))


class TestNoPaper(unittest.TestCase):
    def test_things_of_any_kind(self):
        deeds = (PAPER, ("happens", 3, "ghost", "read"), ("hold", 0, "h", ("paper", "spook"), True), gone("r", 9), NEEDS,
                 ("paper", 9, "b", "k", ("maker",)), ("leave", 0, "l", "k"))
        for ask in (earliest, diary):
            for thing in NO_PAPERS + ("ghost", "spook", "maker", "h", "k", "r", "l", "read"):
                for others in ((), deeds):
                    with self.assertRaises(NoPaper, msg=(ask, thing)):
                        ask(others, thing)


if __name__ == "__main__":
    unittest.main()
