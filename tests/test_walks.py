"""Many random deeds, and the plan, clashes and spans of them against a plain walk, day by day."""

import itertools
import random
import unittest

from goneday.clashes import clash, clashing
from goneday.deeds import go_together, is_deed
from goneday.plans import plan, there
from goneday.spans import diary, earliest
from goneday.turning import turning_days
from tests.plain import Plain
from tests.samples import LONG, SHORT, busy_deeds, random_deeds, shuffled

LAST = 99999


def far(deeds, seed):
    """Some deeds of which every fourth or so comes later, up to the last day that a deed may tell."""
    dice = random.Random(seed)
    moved = [(deed[0], dice.randint(1000, LAST)) + deed[2:] if dice.random() < 0.25 else deed for deed in deeds]
    return tuple(moved)


def cut(day, end):
    """The day where a walk that ends ahead of this end meets it, else None."""
    return day if day is not None and day < end else None


def some(days, many):
    """Some of these days, the first and the last among them."""
    return days[::len(days) // many + 1] + days[-1:]


class Walking(unittest.TestCase):
    def check_deeds(self, deeds):
        self.assertTrue(all(is_deed(deed) for deed in deeds))
        self.assertTrue(go_together(deeds))
        self.assertLessEqual(len(deeds), 40)

    def check_goings(self, deeds, walk, days):
        end = days[-1] + 1
        rows = tuple((name, cut(day, end), leave if cut(day, end) is not None else None) for name, day, leave in plan(deeds))
        self.assertEqual(rows, walk.rows(), deeds)
        for day in some(days, 4):
            self.assertEqual(there(deeds, day), walk.there(day), (deeds, day))

    def check_clashes(self, deeds, walk, days):
        told = clash(deeds)
        self.assertEqual(told if told and told[0] <= days[-1] else None, walk.clash(), deeds)
        clashes = [day for day in days if walk.clashing(day)]
        quiet = [day for day in days if not walk.clashing(day)]
        for day in some(clashes, 3) + some(quiet, 3):
            self.assertEqual(clashing(deeds, day), walk.clashing(day), (deeds, day))

    def check_spans(self, deeds, walk, days):
        went = {name: day for name, day, leave in plan(deeds)}
        for name in walk.plain.order:
            self.assertEqual(cut(earliest(deeds, name), days[-1] + 1), walk.earliest(name), (deeds, name))
            self.check_diary(deeds, walk, days, name, went[name])

    def check_diary(self, deeds, walk, days, name, went):
        stretches = diary(deeds, name)
        ahead = walk.plain.comings[name][1] - 1
        for first, last, why in stretches:
            self.assertEqual(first, ahead + 1, (deeds, name))
            self.assertTrue(last is None or last >= first, (deeds, name))
            for day in days:
                if first <= day and (last is None or day <= last):
                    self.assertTrue(walk.is_why(day, name, why), (deeds, name, day, why))
            ahead = last
        # A stretch behind an endless one would fail above, for nothing is one more than None.
        self.assertEqual(ahead, None if went is None else went - 1, (deeds, name))

    def check(self, deeds, days):
        self.check_deeds(deeds)
        walk = Plain(deeds).walk(days)
        self.check_goings(deeds, walk, days)
        self.check_clashes(deeds, walk, days)
        self.check_spans(deeds, walk, days)


class TestDayByDay(Walking):
    def test_all_days_of_few_deeds_near_together(self):
        for seed in range(40):
            self.check(random_deeds(seed), list(range(60)))

    def test_days_near_together(self):
        for seed in range(40):
            self.check(busy_deeds(seed, 12), list(range(60)))

    def test_days_to_some_hundred(self):
        for seed in range(25):
            self.check(busy_deeds(seed, 60), list(range(400)))

    def test_days_to_the_last_and_reckonings_by_years(self):
        for seed in range(20):
            self.check(far(busy_deeds(seed, 80, SHORT + LONG), seed), list(range(450)))


class TestFarDays(Walking):
    def days(self, deeds, seed):
        """All turning days, the days beside them, and some others."""
        turns = Plain(deeds).turning()
        dice = random.Random(seed)
        beside = [day + step for day, step in itertools.product(turns, (-1, 0, 1))]
        others = [dice.randint(0, turns[-1] + 1000) for turn in range(30)]
        return sorted(set(day for day in beside + others + [10 ** 6] if day >= 0))

    def test_deeds_of_all_days(self):
        for seed in range(30):
            deeds = busy_deeds(seed, LAST, LONG)
            self.check(deeds, self.days(deeds, seed))

    def test_deeds_of_near_and_far_days(self):
        for seed in range(30):
            deeds = far(busy_deeds(seed, 200, SHORT + LONG), seed)
            self.check(deeds, self.days(deeds, seed))

    def test_each_paper_goes_on_a_turning_day(self):
        for seed in range(100):
            deeds = busy_deeds(seed, 3000, SHORT + LONG)
            turns = turning_days(deeds)
            for name, day, leave in plan(deeds):
                self.assertTrue(day is None or day in turns)
                self.assertTrue(day is not None or leave is None)


class TestOrders(unittest.TestCase):
    def told(self, deeds, names, days):
        of_papers = [(earliest(deeds, name), diary(deeds, name)) for name in names]
        of_days = [(there(deeds, day), clashing(deeds, day)) for day in days]
        return (plan(deeds), clash(deeds), of_papers, of_days)

    def test_the_same_in_other_orders(self):
        for seed in range(15):
            deeds = busy_deeds(seed, 60, SHORT + LONG)
            names = sorted(deed[2] for deed in deeds if deed[0] == "paper")
            days = (0, 30, 200, 10 ** 7)
            told = self.told(deeds, names, days)
            for others in (deeds[::-1], shuffled(deeds, seed), shuffled(deeds, seed + 1)):
                self.assertEqual(self.told(others, names, days), told)


if __name__ == "__main__":
    unittest.main()
