import itertools
import unittest

from goneday.deeds import go_together, is_deed, is_name, is_rule, quarrel
from tests.samples import DEEDS, KEEP, NO_PARTS, RULES, replaced, reshaped, shuffled

LETTERS = "abcdefghijklmnopqrstuvwxyz"


class Asking(unittest.TestCase):
    def says(self, ask, thing, answer):
        self.assertIs(ask(thing), answer, repr(thing))


class TestNames(Asking):
    def test_names(self):
        for name in tuple(LETTERS) + ("ab", "zzzz", "abcdefgh", "paper", "one"):
            self.says(is_name, name, True)

    def test_no_names(self):
        for name in ("", "abcdefghi", "abcdefghij", "A", "aB", "Abc", "a1", "1", "a_b", "a-b", "a b", " ", " a", "a ",
                     "a\n", "\n", "a.b", "`", "{", "a:"):
            self.says(is_name, name, False)

    def test_things_that_are_no_text(self):
        for thing in (None, 0, 1, True, False, [], {}, (), ["a"], ("a",), {"a": "a"}, [["a"]], ({},), ([],)):
            self.says(is_name, thing, False)


class TestRules(Asking):
    def test_rules(self):
        for parts in RULES:
            self.says(is_rule, parts, True)

    def test_each_word_since_and_unit(self):
        sinces = (("coming",), ("first", "read"), ("last", "read"))
        for word, since, unit in itertools.product(("keep", "gone"), sinces, ("days", "months", "years")):
            for many in (0, 1, 998, 999):
                self.says(is_rule, (word, "mail", since, many, unit), True)
            for many in (-1, 1000, -999, 10 ** 30, True, False, None, "5", [5], (5,)):
                self.says(is_rule, (word, "mail", since, many, unit), False)

    def test_words_of_the_other_length(self):
        for word in ("while", "follow", "leave"):
            self.says(is_rule, (word, "mail", ("coming",), 5, "days"), False)
        for word in ("keep", "gone"):
            self.says(is_rule, (word, "mail"), False)
        for word in ("", "stay", "Keep", "rule", "end", "paper", "keep "):
            self.says(is_rule, (word, "mail"), False)
            self.says(is_rule, (word, "mail", ("coming",), 5, "days"), False)

    def test_wrong_sinces(self):
        for since in ("coming", ("coming", "read"), ("first",), ("last",), ("coming", None), ("read",),
                      ("middle", "read"), ("first", "Read"), ("first", ""), ("last", "ninesigns"), ("first", "a", "b"), (), ["coming"],
                      ["first", "read"], ("first", ["read"]), ("first", {}), None, 0):
            self.says(is_rule, ("keep", "mail", since, 5, "days"), False)

    def test_wrong_units(self):
        for unit in ("day", "month", "year", "weeks", "Days", "", "days ", None, 1, ["days"], ("days",), {}):
            self.says(is_rule, ("keep", "mail", ("coming",), 5, unit), False)

    def test_a_wrong_part_at_any_place(self):
        for parts in RULES:
            for part in NO_PARTS + (True, False):
                for thing in replaced(parts, part):
                    self.says(is_rule, thing, False)

    def test_parts_more_or_fewer_and_lists(self):
        for parts in RULES:
            for thing in reshaped(parts):
                self.says(is_rule, thing, False)

    def test_things_of_other_kinds(self):
        for thing in NO_PARTS + (True, 5, "keep", (), ("keep",), DEEDS, (KEEP,)) + DEEDS:
            self.says(is_rule, thing, False)


class TestDeeds(Asking):
    def test_deeds(self):
        for deed in DEEDS:
            self.says(is_deed, deed, True)
        for parts in RULES:
            self.says(is_deed, ("rule", 0, "r", parts), True)

    def test_each_target_deep_and_not(self):
        for word, deep in itertools.product(("paper", "kind"), (True, False)):
            self.says(is_deed, ("hold", 1, "h", (word, "a"), deep), True)
            self.says(is_deed, ("hold", 1, "h", (word, "A"), deep), False)
        for word in ("rule", "hold", "", "Paper", None):
            self.says(is_deed, ("hold", 1, "h", (word, "a"), True), False)

    def test_deep_is_a_truth(self):
        for deep in (0, 1, None, "deep", "", "True", [], (), {}):
            self.says(is_deed, ("hold", 1, "h", ("paper", "a"), deep), False)

    def test_days(self):
        for deed in DEEDS:
            for day in (0, 1, 99998, 99999):
                self.says(is_deed, (deed[0], day) + deed[2:], True)
            for day in (-1, 100000, 10 ** 30, True, False, None, "0", [0], (0,), {}, "2000-01-01"):
                self.says(is_deed, (deed[0], day) + deed[2:], False)

    def test_makers(self):
        for makers in ((), ("a",), ("a", "b"), ("a", "aa", "b"), ("a", "b", "c", "d"), ("p",)):
            self.says(is_deed, ("paper", 0, "p", "k", makers), True)
        for makers in (("b", "a"), ("a", "a"), ("a", "c", "b"), ("a", "b", "b"), ("aa", "a"), ("b", "a", "c"),
                       ("a", "b", "c", "d", "e"), ("a", "b", "d", "c"), ["a"], [], "a", "", None, {}, {"a": "b"},
                       ("a", None), (None,), ("a", 1), (1, 2), ("a", "B"), ("A", "b"), ("",), ("a", ["b"]), ([], {}),
                       ("ninesigns",), (("a",),)):
            self.says(is_deed, ("paper", 0, "p", "k", makers), False)

    def test_other_words(self):
        for deed in DEEDS:
            for word in ("", "Paper", "keep", "strike", "a", None, 0, True, [], {}, (), ["paper"], ("paper",)):
                self.says(is_deed, (word,) + deed[1:], False)

    def test_a_word_with_another_one_s_parts(self):
        alike = (("end", "lift"), ("lift", "end"), ("happens", "leave"), ("leave", "happens"))
        for one, other in itertools.product(DEEDS, DEEDS):
            if one[0] != other[0] and (one[0], other[0]) not in alike:
                self.says(is_deed, (one[0],) + other[1:], False)

    def test_a_wrong_part_at_any_place(self):
        for deed in DEEDS:
            for part in NO_PARTS:
                for thing in replaced(deed, part):
                    self.says(is_deed, thing, False)

    def test_a_truth_for_any_other_part(self):
        for deed in DEEDS:
            for truth in (True, False):
                for thing in replaced(deed, truth):
                    if not (deed[0] == "hold" and thing[:4] == deed[:4]):
                        self.says(is_deed, thing, False)

    def test_parts_more_or_fewer_and_lists(self):
        for deed in DEEDS:
            # Makers may be more or fewer; what they may be has a test of its own.
            fixed = deed[:4] + ((),) if deed[0] == "paper" else deed
            for thing in reshaped(fixed):
                if thing != fixed[:4] + (("a",),):
                    self.says(is_deed, thing, False)

    def test_things_of_other_kinds(self):
        for thing in NO_PARTS + (True, False, 5, "paper", (), ("paper",), ("paper", 0), DEEDS, (DEEDS[0],)) + RULES:
            self.says(is_deed, thing, False)

    def test_things_that_are_asked_about_stay_as_they_are(self):
        thing = ["a", {"b": ["c"]}]
        for ask in (is_name, is_rule, is_deed):
            self.assertIs(ask(thing), False)
            self.assertIs(ask(("hold", 1, "h", thing, True)), False)
        self.assertEqual(thing, ["a", {"b": ["c"]}])


QUARRELLING = (
    (("paper", 1, "a", "k", ()), ("paper", 1, "a", "k", ())),
    (("paper", 1, "a", "k", ()), ("paper", 9, "a", "k", ())),
    (("paper", 1, "a", "k", ()), ("paper", 9, "a", "m", ("b",))),
    (("happens", 1, "a", "read"), ("happens", 1, "a", "read")),
    (("rule", 1, "r", ("while", "k")), ("rule", 1, "r", ("while", "k"))),
    (("rule", 1, "r", ("while", "k")), ("rule", 1, "r", ("follow", "m"))),
    (("rule", 1, "r", ("while", "k")), ("end", 1, "r")),
    (("end", 1, "r"), ("end", 1, "r")),
    (("hold", 1, "h", ("paper", "a"), True), ("hold", 1, "h", ("paper", "a"), True)),
    (("hold", 1, "h", ("paper", "a"), True), ("hold", 1, "h", ("paper", "a"), False)),
    (("hold", 1, "h", ("paper", "a"), True), ("hold", 1, "h", ("kind", "k"), True)),
    (("hold", 1, "h", ("paper", "a"), True), ("lift", 1, "h")),
    (("lift", 1, "h"), ("lift", 1, "h")),
    (("leave", 1, "l", "k"), ("leave", 1, "l", "k")),
    (("leave", 1, "l", "k"), ("leave", 2, "l", "k")),
    (("leave", 1, "l", "k"), ("leave", 3, "l", "m")),
    (("leave", 1, "l", "k"), ("leave", 1, "l", "m")),
)

AT_PEACE = (
    (("paper", 1, "a", "k", ()), ("paper", 1, "b", "k", ())),
    (("paper", 1, "a", "k", ("b",)), ("paper", 1, "b", "k", ("a",))),
    (("paper", 1, "a", "k", ()), ("leave", 1, "a", "k")),
    (("paper", 1, "a", "k", ()), ("happens", 1, "a", "k")),
    (("paper", 1, "a", "k", ()), ("end", 1, "a")),
    (("paper", 1, "a", "k", ()), ("rule", 1, "a", ("while", "k"))),
    (("paper", 1, "a", "k", ()), ("hold", 1, "a", ("paper", "a"), False)),
    (("happens", 1, "a", "read"), ("happens", 2, "a", "read")),
    (("happens", 1, "a", "read"), ("happens", 1, "b", "read")),
    (("happens", 1, "a", "read"), ("happens", 1, "a", "sent")),
    (("happens", 1, "a", "k"), ("leave", 1, "a", "k")),
    (("rule", 1, "r", ("while", "k")), ("rule", 2, "r", ("while", "k"))),
    (("rule", 1, "r", ("while", "k")), ("rule", 1, "s", ("while", "k"))),
    (("rule", 1, "r", ("while", "k")), ("end", 2, "r")),
    (("rule", 1, "r", ("while", "k")), ("end", 1, "s")),
    (("rule", 1, "r", ("while", "k")), ("lift", 1, "r")),
    (("rule", 1, "r", ("while", "k")), ("hold", 1, "r", ("kind", "k"), True)),
    (("end", 1, "r"), ("end", 2, "r")),
    (("end", 1, "r"), ("end", 1, "s")),
    (("end", 1, "r"), ("lift", 1, "r")),
    (("end", 1, "r"), ("hold", 1, "r", ("kind", "k"), True)),
    (("end", 1, "r"), ("leave", 1, "r", "k")),
    (("hold", 1, "h", ("paper", "a"), True), ("hold", 2, "h", ("paper", "a"), True)),
    (("hold", 1, "h", ("paper", "a"), True), ("hold", 1, "i", ("paper", "a"), True)),
    (("hold", 1, "h", ("paper", "a"), True), ("lift", 2, "h")),
    (("hold", 1, "h", ("paper", "a"), True), ("lift", 1, "i")),
    (("lift", 1, "h"), ("lift", 2, "h")),
    (("lift", 1, "h"), ("lift", 1, "i")),
    (("leave", 1, "l", "k"), ("leave", 1, "m", "k")),
    (("leave", 1, "l", "k"), ("rule", 1, "l", ("leave", "k"))),
)


class TestQuarrel(unittest.TestCase):
    def test_the_samples_are_deeds(self):
        for one, other in QUARRELLING + AT_PEACE:
            self.assertTrue(is_deed(one) and is_deed(other))

    def test_quarrelling(self):
        for one, other in QUARRELLING:
            self.assertIs(quarrel(one, other), True, (one, other))
            self.assertIs(quarrel(other, one), True, (other, one))

    def test_at_peace(self):
        for one, other in AT_PEACE:
            self.assertIs(quarrel(one, other), False, (one, other))
            self.assertIs(quarrel(other, one), False, (other, one))

    def test_every_deed_quarrels_with_itself_and_with_none_of_the_others(self):
        for one, other in itertools.product(DEEDS, DEEDS):
            self.assertIs(quarrel(one, other), one == other, (one, other))


class TestGoTogether(unittest.TestCase):
    def test_none_and_one(self):
        self.assertIs(go_together(()), True)
        for deed in DEEDS:
            self.assertIs(go_together((deed,)), True)

    def test_deeds_of_every_word(self):
        for seed in range(5):
            self.assertIs(go_together(shuffled(DEEDS, seed)), True)

    def test_pairs(self):
        for pair in AT_PEACE:
            self.assertIs(go_together(pair), True, pair)
        for pair in QUARRELLING:
            self.assertIs(go_together(pair), False, pair)

    def test_wherever_the_quarrelling_ones_stand(self):
        others = [("happens", day, "z", "sent") for day in range(5)]
        for one, other in QUARRELLING:
            for first, second in itertools.combinations(range(7), 2):
                deeds = list(others)
                deeds.insert(first, one)
                deeds.insert(second, other)
                self.assertIs(go_together(tuple(deeds)), False, deeds)

    def test_forty_deeds(self):
        deeds = tuple(("happens", day, "a", "read") for day in range(40))
        self.assertIs(go_together(deeds), True)
        self.assertIs(go_together(deeds[:39] + (deeds[0],)), False)


if __name__ == "__main__":
    unittest.main()
