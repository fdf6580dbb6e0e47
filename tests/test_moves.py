import random
import unittest

from goneday.deeds import go_together, is_deed
from goneday.moves import moved
from goneday.plans import plan
from goneday.webs import made_of, papers
from tests.samples import LONG, SHORT, busy_deeds, gone, in_all_orders, keep, shuffled

BASE = (
    ("paper", 5, "b", "k", ()), ("paper", 5, "a", "k", ("z",)), ("paper", 2, "z", "k", ()), ("paper", 9, "m", "m", ("z",)),
    gone("r", 10),
)


class TestMoved(unittest.TestCase):
    def moves(self, one, other, *rows):
        for first in in_all_orders(one):
            for second in (other, other[::-1], shuffled(other, 3)):
                told = moved(first, second)
                self.assertEqual(told, rows)
                for part in (told,) + told:
                    self.assertIs(type(part), tuple)

    def test_a_set_and_itself_in_another_order(self):
        self.moves(BASE, BASE)
        self.moves(BASE[::-1], BASE)
        for seed in range(20):
            deeds = busy_deeds(seed, 40)
            self.assertEqual(moved(deeds, shuffled(deeds, seed)), ())

    def test_a_set_and_no_deeds(self):
        self.moves(BASE, ())
        self.moves((), BASE)
        self.moves((), ())

    def test_later_and_earlier(self):
        self.moves(BASE, BASE + (keep("s", 30),), ("z", 12, 32), ("a", 15, 35), ("b", 15, 35))
        self.moves(BASE + (keep("s", 30),), BASE, ("z", 32, 12), ("a", 35, 15), ("b", 35, 15))

    def test_never(self):
        held = BASE + (("hold", 0, "h", ("paper", "a"), False),)
        self.moves(BASE, held, ("a", 15, None))
        self.moves(held, BASE, ("a", None, 15))
        self.moves(BASE, BASE[:4], ("z", 12, None), ("a", 15, None), ("b", 15, None))

    def test_only_those_of_which_the_day_differs(self):
        other = BASE + (("hold", 0, "h", ("paper", "z"), False), ("lift", 20, "h"))
        self.moves(BASE, other, ("z", 12, 20))
        self.moves(BASE, BASE + (gone("s", 1, "m"),), ("m", None, 10))

    def test_another_leave_alone_moves_nothing(self):
        asked = BASE[:1] + BASE[4:] + (("rule", 0, "n", ("leave", "k")),)
        self.moves(asked + (("leave", 0, "l", "k"),), asked + (("leave", 0, "o", "k"),))
        self.moves(asked + (("leave", 0, "l", "k"),), asked, ("b", 15, None))

    def test_papers_of_both_sets_alone(self):
        rule = gone("r", 20)
        one = (("paper", 1, "a", "k", ()), ("paper", 2, "b", "k", ()), BASE[4])
        other = (("paper", 2, "b", "k", ()), ("paper", 3, "c", "k", ()), rule)
        self.moves(one, other, ("b", 12, 22))
        self.moves(other, one, ("b", 22, 12))
        self.moves(one[:1] + (rule,), other)

    def test_a_paper_that_comes_on_another_day(self):
        one = (("paper", 1, "a", "k", ()), ("paper", 2, "b", "k", ()), BASE[4])
        other = (("paper", 7, "a", "k", ()), ("paper", 2, "b", "k", ()), BASE[4])
        self.moves(one, other, ("a", 11, 17))

    def test_rows_in_the_order_of_the_one(self):
        one = (("paper", 1, "a", "k", ()), ("paper", 2, "b", "k", ()), ("paper", 2, "c", "k", ()), BASE[4])
        other = (("paper", 9, "a", "k", ()), ("paper", 8, "b", "k", ()), ("paper", 7, "c", "k", ()), BASE[4])
        self.moves(one, other, ("a", 11, 19), ("b", 12, 18), ("c", 12, 17))
        self.moves(other, one, ("c", 17, 12), ("b", 18, 12), ("a", 19, 11))

    def test_a_paper_of_another_kind(self):
        one = (("paper", 1, "a", "k", ()), BASE[4], gone("s", 10, "n"))
        self.moves(one, (("paper", 1, "a", "m", ()),) + one[1:], ("a", 11, None))
        self.moves(one, (("paper", 1, "a", "n", ()),) + one[1:])

    def test_far_days(self):
        one = (("paper", 99999, "a", "k", ()), gone("r", 999))
        self.moves(one, one[:1] + (gone("r", 998),), ("a", 100998, 100997))


class TestOneDeedMore(unittest.TestCase):
    def each(self):
        """Deeds without a leave rule, and dice."""
        for seed in range(40):
            deeds = busy_deeds(seed, 40, SHORT if seed % 3 else SHORT + LONG)
            kept = tuple(deed for deed in deeds if deed[0] != "rule" or deed[3][0] != "leave")
            yield kept[:39], random.Random(seed)

    def more(self, deeds, deed):
        self.assertTrue(is_deed(deed))
        self.assertTrue(go_together(deeds + (deed,)))
        return moved(deeds, (deed,) + deeds)

    def new_rule(self, dice, words):
        """A deed of a rule of a name that no deed of the sets has."""
        word = dice.choice(words)
        parts = (word, dice.choice("km"))
        if word in ("keep", "gone"):
            parts += (dice.choice((("coming",), ("last", "read"))), dice.randint(0, 30), "days")
        return ("rule", dice.randint(0, 30), "newrule", parts)

    def new_hold(self, dice, target, deep):
        return ("hold", dice.randint(0, 30), "newhold", target, deep)

    def test_one_more_hold_makes_no_paper_go_earlier(self):
        met = 0
        for deeds, dice in self.each():
            for target in (("kind", "k"), ("kind", "m"), ("paper", dice.choice("abcdef"))):
                rows = self.more(deeds, self.new_hold(dice, target, dice.choice((True, False))))
                met += len(rows)
                for paper, one, other in rows:
                    self.assertTrue(other is None or one < other, deeds)
        self.assertGreater(met, 50)

    def test_one_more_keep_or_while_rule_makes_no_paper_go_earlier(self):
        met = 0
        for deeds, dice in self.each():
            for turn in range(3):
                rows = self.more(deeds, self.new_rule(dice, ("keep", "while")))
                met += len(rows)
                for paper, one, other in rows:
                    self.assertTrue(other is None or one < other, deeds)
        self.assertGreater(met, 50)

    def test_one_more_gone_or_follow_rule_makes_no_paper_go_later(self):
        met = 0
        for deeds, dice in self.each():
            for turn in range(3):
                rows = self.more(deeds, self.new_rule(dice, ("gone", "follow")))
                met += len(rows)
                for paper, one, other in rows:
                    self.assertTrue(one is None or other < one, deeds)
        self.assertGreater(met, 50)

    def only_near(self, deeds, paper, deed):
        rows = self.more(deeds, deed)
        near = (paper,) + made_of(deeds, paper)
        for row in rows:
            self.assertIn(row[0], near, deeds)
        return len(rows)

    def test_one_more_happening_moves_only_the_paper_and_what_is_made_of_it(self):
        met = 0
        for deeds, dice in self.each():
            for paper in papers(deeds):
                deed = ("happens", dice.randint(0, 40), paper, "read")
                if deed not in deeds:
                    met += self.only_near(deeds, paper, deed)
        self.assertGreater(met, 30)

    def test_one_more_hold_that_is_not_deep_moves_only_the_paper_and_what_is_made_of_it(self):
        met = 0
        for deeds, dice in self.each():
            for paper in papers(deeds):
                met += self.only_near(deeds, paper, self.new_hold(dice, ("paper", paper), False))
        self.assertGreater(met, 30)


class TestAgainstThePlan(unittest.TestCase):
    def test_two_sets_of_one_dice(self):
        for seed in range(60):
            one, other = busy_deeds(seed, 30), shuffled(busy_deeds(seed, 30, LONG), seed)
            first = {row[0]: row[1] for row in plan(one)}
            second = {row[0]: row[1] for row in plan(other)}
            both = [name for name in papers(one) if name in papers(other) and first[name] != second[name]]
            self.assertEqual(moved(one, other), tuple((name, first[name], second[name]) for name in both))


if __name__ == "__main__":
    unittest.main()
