import unittest

from goneday.days import day_of
from goneday.turning import turning_days
from tests.samples import DEEDS, in_all_orders


PAPERS = (
    ("paper", 100, "a", "k", ()),
    ("paper", 200, "b", "k", ()),
    ("paper", 300, "c", "m", ()),
)


class TestTurningDays(unittest.TestCase):
    def turns(self, deeds, *days):
        for others in in_all_orders(deeds):
            told = turning_days(others)
            self.assertEqual(told, days)
            self.assertIs(type(told), tuple)

    def test_no_deeds(self):
        self.assertEqual(turning_days(()), ())

    def test_days_of_all_deeds(self):
        deeds = tuple(deed for deed in DEEDS if deed[0] != "rule")
        self.turns(deeds, 0, 3, 5, 6, 7, 8, 9, 99999)
        for deed in DEEDS:
            self.turns((deed,), deed[1])

    def test_each_once(self):
        self.turns((("end", 4, "r"), ("lift", 4, "h"), ("leave", 4, "l", "k"), ("end", 2, "r"), ("end", 2, "s")), 2, 4)
        self.turns(PAPERS[:2] + (("rule", 0, "r", ("keep", "k", ("coming",), 100, "days")),
                                 ("rule", 0, "s", ("gone", "k", ("coming",), 100, "days"))), 0, 100, 200, 300)

    def test_from_the_coming_of_each_paper_of_the_kind(self):
        for word in ("keep", "gone"):
            self.turns(PAPERS + (("rule", 5, "r", (word, "k", ("coming",), 7, "days")),), 5, 100, 107, 200, 207, 300)
            self.turns(PAPERS + (("rule", 5, "r", (word, "m", ("coming",), 7, "days")),), 5, 100, 200, 300, 307)
            self.turns(PAPERS + (("rule", 5, "r", (word, "n", ("coming",), 7, "days")),), 5, 100, 200, 300)

    def test_rules_that_reckon_nothing(self):
        for word in ("while", "follow", "leave"):
            self.turns(PAPERS + (("rule", 5, "r", (word, "k")),), 5, 100, 200, 300)

    def happenings(self, since):
        return PAPERS + (
            ("happens", 90, "a", "read"), ("happens", 110, "a", "read"), ("happens", 400, "a", "read"),
            ("happens", 250, "b", "sent"), ("happens", 150, "c", "read"), ("happens", 500, "ghost", "read"),
            ("rule", 5, "r", ("keep", "k", since, 1, "days")),
        )

    def test_from_the_first_happening_alone(self):
        self.turns(self.happenings(("first", "read")), 5, 90, 91, 100, 110, 150, 200, 250, 300, 400, 500)

    def test_from_each_that_was_the_last_happening(self):
        self.turns(self.happenings(("last", "read")), 5, 90, 91, 100, 110, 111, 150, 200, 250, 300, 400, 401, 500)

    def test_from_another_happening(self):
        self.turns(self.happenings(("last", "sent")), 5, 90, 100, 110, 150, 200, 250, 251, 300, 400, 500)
        self.turns(self.happenings(("first", "lost")), 5, 90, 100, 110, 150, 200, 250, 300, 400, 500)

    def test_a_happening_called_coming(self):
        for word in ("first", "last"):
            deeds = (("paper", 5, "a", "k", ()), ("happens", 8, "a", "coming"),
                     ("rule", 0, "r", ("keep", "k", (word, "coming"), 7, "days")))
            self.turns(deeds, 0, 5, 8, 15)

    def test_other_deeds_with_the_same_names_are_no_happenings(self):
        deeds = (("paper", 5, "a", "k", ()), ("leave", 6, "a", "read"),
                 ("rule", 0, "r", ("keep", "k", ("last", "read"), 7, "days")))
        self.turns(deeds, 0, 5, 6)

    def test_rules_that_were_changed_or_ended(self):
        deeds = PAPERS[:1] + (
            ("rule", 1, "r", ("keep", "k", ("coming",), 1, "days")),
            ("rule", 2, "r", ("gone", "k", ("coming",), 3, "days")),
            ("end", 3, "r"),
            ("rule", 900, "r", ("gone", "k", ("coming",), 5, "days")),
            ("end", 901, "r"),
        )
        self.turns(deeds, 1, 2, 3, 100, 101, 103, 105, 900, 901)

    def test_units(self):
        deeds = (("paper", day_of(2004, 2, 29), "a", "k", ()),)
        for many, unit, date in ((1, "months", (2004, 3, 29)), (1, "years", (2005, 2, 28)), (999, "years", (3003, 2, 28))):
            rule = ("rule", 0, "r", ("gone", "k", ("coming",), many, unit))
            self.turns(deeds + (rule,), 0, day_of(2004, 2, 29), day_of(*date))

    def test_far_behind_the_last_day_of_a_deed(self):
        deeds = (("paper", 99999, "a", "k", ()), ("rule", 0, "r", ("gone", "k", ("coming",), 999, "years")))
        self.turns(deeds, 0, 99999, day_of(3272, 10, 15))


if __name__ == "__main__":
    unittest.main()
