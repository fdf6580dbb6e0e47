import itertools
import random
import unittest

from goneday.checker import holds
from goneday.clashes import clash
from goneday.errors import NoPaper
from goneday.papers import paper_clash, paper_covered, paper_made, paper_plan
from goneday.plans import plan
from goneday.spans import diary
from goneday.standing import covering
from goneday.webs import papers
from tests.claims import PlainChecker
from tests.plain import Plain
from tests.samples import LONG, NO_PAPERS, SHORT, busy_deeds, gone, in_all_orders, keep, random_deeds, shuffled

A = ("paper", 5, "a", "k", ())
B = ("paper", 9, "b", "k", ("a",))
NEAR = tuple((many, "days") for many in (0, 1, 3, 9))


class OnPaper(unittest.TestCase):
    def taken(self, told, deeds):
        """A claim of the very deeds handed in, which is taken with its grounds and not without."""
        self.assertIs(type(told), tuple)
        claim, grounds = told
        self.assertIs(claim[1], deeds)
        self.assertIs(holds(claim, grounds), True, told)
        self.assertIs(holds(claim, None), False, told)
        self.assert_tuples(told)
        return claim, grounds

    def assert_tuples(self, thing):
        self.assertNotIsInstance(thing, (list, dict))
        if isinstance(thing, tuple):
            for part in thing:
                self.assert_tuples(part)

    def in_orders(self, deeds, ask, *things):
        """The same is told in whatever order the deeds stand, but the deeds as handed in."""
        told = [ask(others, *things) for others in in_all_orders(deeds)]
        for others, one in zip(in_all_orders(deeds), told):
            if told[0] is None:
                self.assertIsNone(one)
            else:
                self.assertEqual(one[0][1], others)
                self.assertEqual((one[0][0], one[0][2:], one[1]), (told[0][0][0], told[0][0][2:], told[0][1]))


class TestPlan(OnPaper):
    def plan_is(self, deeds, *pairs):
        for others in in_all_orders(deeds):
            claim, grounds = self.taken(paper_plan(others), others)
            self.assertEqual(claim, ("plan", others, plan(deeds)))
            self.assertEqual(grounds, pairs)

    def test_no_deeds(self):
        self.assertEqual(paper_plan(()), (("plan", (), ()), ()))
        self.plan_is(())
        self.plan_is((gone("r", 4), ("happens", 3, "a", "read")))

    def test_as_it_comes(self):
        self.plan_is((A, gone("r", 0)), ((), ("r", 5)))

    def test_never(self):
        self.plan_is((A,), (((5, None, ("none",)),), None))

    def test_each_reason(self):
        called = (A, gone("r", 10))
        self.plan_is(called, (((5, 14, ("none",)),), ("r", 15)))
        self.plan_is(called + (keep("s", 20),), (((5, 14, ("none",)), (15, 24, ("stays", "s", 25))), ("r", 15)))
        never = keep("s", 0, since=("last", "read"))
        self.plan_is(called + (never,), (((5, 14, ("none",)), (15, None, ("stays", "s", None))), None))
        hold = ("hold", 0, "h", ("paper", "a"), False)
        self.plan_is(called + (hold,), (((5, 14, ("none",)), (15, None, ("held", "h"))), None))
        needs = ("rule", 0, "n", ("leave", "k"))
        self.plan_is(called + (needs,), (((5, 14, ("none",)), (15, None, ("lacks", "n"))), None))
        self.plan_is(called + (needs, ("leave", 20, "l", "k")), (((5, 14, ("none",)), (15, 19, ("lacks", "n"))), ("r", 15)))

    def test_by_makers(self):
        deeds = (A, ("paper", 9, "b", "m", ("a",)), gone("r", 10), ("rule", 0, "f", ("follow", "m")), gone("s", 0, "m"),
                 ("rule", 0, "w", ("while", "m")))
        self.plan_is(deeds, (((5, 14, ("none",)),), ("r", 15)), (((9, 14, ("stays", "w", "a")),), ("f", "a")))

    def test_drawn_deeds(self):
        for seed in range(60):
            deeds = shuffled(busy_deeds(seed, 12, NEAR), seed)
            claim, grounds = self.taken(paper_plan(deeds), deeds)
            self.assertTrue(PlainChecker(deeds, 40).plan_holds(claim[2], grounds))
            self.assertEqual([pair[0] for pair in grounds], [diary(deeds, name) for name in papers(deeds)])

    def test_forty_deeds_with_days_to_the_last(self):
        for seed in range(20, 420, 21):
            # Of each seed at a distance of 21 from the first forty deeds are drawn.
            deeds = busy_deeds(seed, 99999, LONG)
            self.assertEqual(len(deeds), 40)
            self.taken(paper_plan(deeds), deeds)
            self.in_orders(deeds, paper_plan)

    def test_many_papers(self):
        names = ["p" + letter for letter in "abcdefghijklmnopqrstuvwxyz"] + ["q" + letter for letter in "abcdefghijk"]
        deeds = tuple(("paper", place, name, "k", tuple(names[max(0, place - 4):place])) for place, name in enumerate(names))
        deeds += (gone("r", 999, unit="years"), ("rule", 0, "w", ("while", "k")), ("hold", 0, "h", ("paper", "pa"), True))
        self.assertEqual(len(deeds), 40)
        self.taken(paper_plan(deeds), deeds)
        claim, grounds = self.taken(paper_made(deeds, "qk", "pa"), deeds)
        self.assertEqual((grounds[0], grounds[-1]), ("qk", "pa"))
        self.taken(paper_covered(deeds, 99999, "qk", "h"), deeds)
        self.taken(paper_clash(deeds), deeds)


class TestMade(OnPaper):
    deeds = (A, B, ("paper", 10, "c", "m", ("b",)), ("paper", 11, "d", "m", ("a", "c", "ghost", "z")), ("paper", 11, "z", "m", ()))

    def test_one_step_and_several(self):
        for deeds in in_all_orders(self.deeds):
            self.assertEqual(paper_made(deeds, "b", "a"), (("made", deeds, "b", "a"), ("b", "a")))
            self.assertEqual(paper_made(deeds, "c", "a"), (("made", deeds, "c", "a"), ("c", "b", "a")))
            self.taken(paper_made(deeds, "d", "b"), deeds)
            self.taken(paper_made(deeds, "d", "a"), deeds)

    def test_none(self):
        for paper, other in (("a", "b"), ("a", "c"), ("d", "z"), ("z", "a"), ("a", "a"), ("d", "d")):
            for deeds in in_all_orders(self.deeds):
                self.assertIsNone(paper_made(deeds, paper, other))

    def test_no_paper(self):
        for thing in NO_PAPERS + ("ghost", "k", "m"):
            for paper, other in ((thing, "a"), ("a", thing), (thing, thing), ("d", thing)):
                with self.assertRaises(NoPaper, msg=repr((paper, other))):
                    paper_made(self.deeds, paper, other)
            with self.assertRaises(NoPaper):
                paper_made((), thing, "a")

    def test_drawn_deeds(self):
        met = {True: 0, False: 0}
        for seed in range(40):
            deeds = random_deeds(seed)
            plain = Plain(deeds)
            for paper, other in itertools.product(plain.order, plain.order):
                told = paper_made(deeds, paper, other)
                truth = plain.is_made(paper, other)
                met[truth] += 1
                if truth:
                    claim, grounds = self.taken(told, deeds)
                    self.assertEqual(claim, ("made", deeds, paper, other))
                    self.in_orders(deeds, paper_made, paper, other)
                else:
                    self.assertIsNone(told)
        self.assertGreater(min(met.values()), 50)


class TestCovered(OnPaper):
    deeds = (
        A, B, ("paper", 10, "c", "m", ("b",)), ("hold", 3, "h", ("paper", "a"), True), ("lift", 20, "h"),
        ("hold", 3, "i", ("kind", "k"), False), ("hold", 3, "j", ("paper", "ghost"), True),
    )

    def test_covered(self):
        for paper, hold, grounds in (
            ("a", "h", ("a",)), ("b", "h", ("b", "a")), ("c", "h", ("c", "b", "a")), ("a", "i", ("a",)), ("b", "i", ("b",)),
        ):
            for deeds in in_all_orders(self.deeds):
                # Also ahead of its coming.
                for day in (3, 7, 19):
                    told = paper_covered(deeds, day, paper, hold)
                    self.assertEqual(told, (("covered", deeds, day, paper, hold), grounds))
                    self.taken(told, deeds)

    def test_none(self):
        for day, paper, hold in (
            (2, "a", "h"), (20, "a", "h"), (99999, "c", "h"), (5, "c", "i"), (5, "a", "j"), (5, "a", "nobody"), (5, "a", "a"),
            (5, "a", "k"), (10 ** 9, "b", "h"),
        ):
            for deeds in in_all_orders(self.deeds):
                self.assertIsNone(paper_covered(deeds, day, paper, hold))

    def test_far_days(self):
        self.taken(paper_covered(self.deeds, 10 ** 9, "b", "i"), self.deeds)

    def test_no_paper(self):
        for thing in NO_PAPERS + ("ghost", "h", "k"):
            for hold in ("h", "nobody"):
                with self.assertRaises(NoPaper, msg=repr(thing)):
                    paper_covered(self.deeds, 5, thing, hold)
                with self.assertRaises(NoPaper):
                    paper_covered((), 5, thing, hold)

    def test_drawn_deeds(self):
        met = {True: 0, False: 0}
        for seed in range(60):
            deeds = random_deeds(seed)
            for paper, hold, day in itertools.product(papers(deeds), "hi", (0, 3, 6, 9, 12)):
                truth = hold in covering(deeds, day, paper)
                met[truth] += 1
                told = paper_covered(deeds, day, paper, hold)
                if truth:
                    claim, grounds = self.taken(told, deeds)
                    self.assertEqual(claim, ("covered", deeds, day, paper, hold))
                else:
                    self.assertIsNone(told)
            for paper in papers(deeds):
                self.in_orders(deeds, paper_covered, random.Random(seed).randint(0, 12), paper, "h")
        self.assertGreater(min(met.values()), 100)


class TestClash(OnPaper):
    def test_none(self):
        for deeds in ((), (A,), (A, gone("r", 3)), (A, keep("s", 10)), (A, gone("r", 10), keep("s", 10)),
                      (A, gone("r", 3), ("hold", 0, "h", ("paper", "a"), False), ("rule", 0, "n", ("leave", "k")))):
            for others in in_all_orders(deeds):
                self.assertIsNone(paper_clash(others))

    def test_the_first(self):
        deeds = (A, B, gone("r", 3), keep("t", 10), keep("s", 11), gone("q", 4))
        rows = (("a", 16, None), ("b", 20, None))
        for others in in_all_orders(deeds):
            claim, grounds = self.taken(paper_clash(others), others)
            self.assertEqual(claim, ("clash", others, rows, 8, "a", ("s", 16), ("r", 8)))
            self.assertEqual(grounds, paper_plan(others)[1])

    def test_drawn_deeds(self):
        met = {True: 0, False: 0}
        for seed in range(60):
            deeds = busy_deeds(seed, 60, SHORT + LONG)
            found = clash(deeds)
            met[found is None] += 1
            if found is None:
                self.assertIsNone(paper_clash(deeds))
            else:
                claim, grounds = self.taken(paper_clash(deeds), deeds)
                self.assertEqual(claim, ("clash", deeds, plan(deeds)) + found)
            self.in_orders(deeds, paper_clash)
        self.assertGreater(min(met.values()), 5)


if __name__ == "__main__":
    unittest.main()
