"""Many random deeds, and what is told of them against a slow and plain reading of the same promises."""

import itertools
import unittest

from goneday.calls import goes, needs_leave, stays
from goneday.deeds import go_together, is_deed, quarrel
from goneday.standing import covering, holds_on, reckoning, rules_on
from goneday.turning import turning_days
from goneday.webs import kind_of, made_of, makers, papers
from tests.plain import Plain
from tests.samples import random_deeds, shuffled, sort_of

SEEDS = range(250)
DAYS = (0, 1, 2, 4, 6, 9, 12, 13, 15, 22, 40, 400, 5000, 10 ** 7)


def some_goings(deeds, seed):
    """Goings of some papers, and of names that aren't to be looked at."""
    names = sorted(deed[2] for deed in deeds if deed[0] == "paper")
    gone = {"nobody": 0, "g": 3}
    for place, name in enumerate(names):
        if (place + seed) % 3:
            gone[name] = (place * 7 + seed) % 15
    return gone


class TestPlainReading(unittest.TestCase):
    def each(self):
        for seed in SEEDS:
            deeds = random_deeds(seed)
            yield seed, shuffled(deeds, seed), Plain(deeds)

    def test_the_deeds_go_together(self):
        for seed, deeds, plain in self.each():
            self.assertTrue(all(is_deed(deed) for deed in deeds))
            self.assertLessEqual(len(deeds), 40)
            self.assertIs(go_together(deeds), True)

    def test_quarrels(self):
        for seed in range(40):
            for one, other in itertools.product(random_deeds(seed), random_deeds(seed + 1)):
                self.assertIs(quarrel(one, other), sort_of(one) == sort_of(other), (one, other))

    def test_webs(self):
        for seed, deeds, plain in self.each():
            self.assertEqual(papers(deeds), tuple(plain.order))
            for name in plain.order:
                self.assertEqual(kind_of(deeds, name), plain.comings[name][3])
                self.assertEqual(makers(deeds, name), plain.makers(name))
                made = tuple(other for other in plain.order if plain.is_made(other, name))
                self.assertEqual(made_of(deeds, name), made, (deeds, name))

    def test_standing(self):
        for seed, deeds, plain in self.each():
            for day in DAYS:
                holds = plain.stand("hold", "lift", day)
                self.assertEqual(rules_on(deeds, day), plain.stand("rule", "end", day))
                self.assertEqual(holds_on(deeds, day), holds)
                for name in plain.order:
                    covers = tuple(hold[0] for hold in holds if plain.covers(hold, name))
                    self.assertEqual(covering(deeds, day, name), covers, (deeds, day, name))

    def test_reckonings(self):
        for seed, deeds, plain in self.each():
            rules = [deed[3] for deed in deeds if deed[0] == "rule" and len(deed[3]) == 5]
            for parts, name, day in itertools.product(rules, plain.order, DAYS):
                self.assertEqual(reckoning(deeds, parts, name, day), plain.reckoning(parts, name, day))

    def test_calls(self):
        for seed, deeds, plain in self.each():
            gone = some_goings(deeds, seed)
            kept = dict(gone)
            for name, day in itertools.product(plain.order, DAYS):
                told = (stays(deeds, day, name, gone), goes(deeds, day, name, gone))
                self.assertEqual(told, plain.calls(day, name, gone), (deeds, day, name))
                rules = [parts for rule, parts in plain.stand("rule", "end", day)]
                self.assertIs(needs_leave(deeds, day, name), ("leave", plain.comings[name][3]) in rules)
            self.assertEqual(gone, kept)

    def test_turning_days(self):
        for seed, deeds, plain in self.each():
            self.assertEqual(turning_days(deeds), plain.turning(), deeds)


if __name__ == "__main__":
    unittest.main()
