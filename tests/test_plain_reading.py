"""Many random deeds, and what is told of them against a slow and plain reading of the same promises."""

import calendar
import datetime
import itertools
import unittest

from goneday.calls import goes, needs_leave, stays
from goneday.deeds import go_together, is_deed, quarrel
from goneday.standing import covering, holds_on, reckoning, rules_on
from goneday.turning import turning_days
from goneday.webs import kind_of, made_of, makers, papers
from tests.samples import random_deeds, shuffled, sort_of

SEEDS = range(250)
DAYS = (0, 1, 2, 4, 6, 9, 12, 13, 15, 22, 40, 400, 5000, 10 ** 7)
START = datetime.date(2000, 1, 1)


def some_goings(deeds, seed):
    """Goings of some papers, and of names that aren't to be looked at."""
    names = sorted(deed[2] for deed in deeds if deed[0] == "paper")
    gone = {"nobody": 0, "g": 3}
    for place, name in enumerate(names):
        if (place + seed) % 3:
            gone[name] = (place * 7 + seed) % 15
    return gone


def plain_later(day, many, unit):
    date = START + datetime.timedelta(days=day)
    if unit == "days":
        return day + many
    months = date.year * 12 + date.month - 1 + many * {"months": 1, "years": 12}[unit]
    year, month = months // 12, months % 12 + 1
    last = calendar.monthrange(year, month)[1]
    return (datetime.date(year, month, min(date.day, last)) - START).days


class Plain:
    """One set of deeds, read plainly: deeds are gone through in turn, as if each came to be known on its day."""

    def __init__(self, deeds):
        self.deeds = sorted(deeds, key=lambda deed: deed[1])
        self.comings = {deed[2]: deed for deed in deeds if deed[0] == "paper"}
        self.order = sorted(self.comings, key=lambda name: (self.comings[name][1], name))

    def makers(self, paper):
        ahead = self.order[:self.order.index(paper)]
        return tuple(name for name in ahead if name in self.comings[paper][4])

    def is_made(self, paper, other):
        return any(maker == other or self.is_made(maker, other) for maker in self.makers(paper))

    def stand(self, setting, ending, day):
        found = {}
        for deed in self.deeds:
            if deed[1] > day:
                break
            if deed[0] == setting:
                found[deed[2]] = (deed[2],) + deed[3:]
            if deed[0] == ending:
                found.pop(deed[2], None)
        return tuple(found[name] for name in sorted(found))

    def told_by(self, target):
        if target[0] == "paper":
            return [name for name in self.order if name == target[1]]
        return [name for name in self.order if self.comings[name][3] == target[1]]

    def covers(self, hold, paper):
        told = self.told_by(hold[1])
        return paper in told or (hold[2] and any(self.is_made(paper, other) for other in told))

    def reckoning(self, parts, paper, day):
        base = self.comings[paper][1] if parts[2] == ("coming",) else None
        for deed in self.deeds:
            if deed[0] == "happens" and deed[2] == paper and deed[3:] == parts[2][1:] and deed[1] <= day:
                if base is None or parts[2][0] == "last":
                    base = deed[1]
        return None if base is None else plain_later(base, parts[3], parts[4])

    def calls(self, day, paper, gone):
        staying, going = [], []
        away = [name for name in self.makers(paper) if name in gone and gone[name] <= day]
        there = [name for name in self.makers(paper) if name not in away]
        for rule, parts in self.stand("rule", "end", day):
            if parts[1] != self.comings[paper][3] or self.comings[paper][1] > day:
                continue
            due = self.reckoning(parts, paper, day) if len(parts) == 5 else None
            if parts[0] == "keep" and (due is None or day < due):
                staying.append((rule, due))
            if parts[0] == "gone" and due is not None and day >= due:
                going.append((rule, due))
            staying.extend((rule, name) for name in there[:1] if parts[0] == "while")
            going.extend((rule, name) for name in away[:1] if parts[0] == "follow")
        return tuple(staying), tuple(going)

    def turning(self):
        days = {deed[1] for deed in self.deeds}
        rules = [deed[3] for deed in self.deeds if deed[0] == "rule" and len(deed[3]) == 5]
        for parts, paper, day in itertools.product(rules, self.order, sorted(days)):
            if parts[1] == self.comings[paper][3]:
                days = days | {self.reckoning(parts, paper, day)}
        return tuple(sorted(days - {None}))


class TestPlainReading(unittest.TestCase):
    def each(self):
        for seed in SEEDS:
            deeds = random_deeds(seed)
            yield seed, shuffled(deeds, seed), Plain(deeds)

    def test_the_deeds_go_together(self):
        for seed, deeds, plain in self.each():
            self.assertTrue(all(is_deed(deed) for deed in deeds))
            self.assertLessEqual(len(deeds), 40)
            self.assertIs(go_together(deeds), True)

    def test_quarrels(self):
        for seed in range(40):
            for one, other in itertools.product(random_deeds(seed), random_deeds(seed + 1)):
                self.assertIs(quarrel(one, other), sort_of(one) == sort_of(other), (one, other))

    def test_webs(self):
        for seed, deeds, plain in self.each():
            self.assertEqual(papers(deeds), tuple(plain.order))
            for name in plain.order:
                self.assertEqual(kind_of(deeds, name), plain.comings[name][3])
                self.assertEqual(makers(deeds, name), plain.makers(name))
                made = tuple(other for other in plain.order if plain.is_made(other, name))
                self.assertEqual(made_of(deeds, name), made, (deeds, name))

    def test_standing(self):
        for seed, deeds, plain in self.each():
            for day in DAYS:
                holds = plain.stand("hold", "lift", day)
                self.assertEqual(rules_on(deeds, day), plain.stand("rule", "end", day))
                self.assertEqual(holds_on(deeds, day), holds)
                for name in plain.order:
                    covers = tuple(hold[0] for hold in holds if plain.covers(hold, name))
                    self.assertEqual(covering(deeds, day, name), covers, (deeds, day, name))

    def test_reckonings(self):
        for seed, deeds, plain in self.each():
            rules = [deed[3] for deed in deeds if deed[0] == "rule" and len(deed[3]) == 5]
            for parts, name, day in itertools.product(rules, plain.order, DAYS):
                self.assertEqual(reckoning(deeds, parts, name, day), plain.reckoning(parts, name, day))

    def test_calls(self):
        for seed, deeds, plain in self.each():
            gone = some_goings(deeds, seed)
            kept = dict(gone)
            for name, day in itertools.product(plain.order, DAYS):
                told = (stays(deeds, day, name, gone), goes(deeds, day, name, gone))
                self.assertEqual(told, plain.calls(day, name, gone), (deeds, day, name))
                rules = [parts for rule, parts in plain.stand("rule", "end", day)]
                self.assertIs(needs_leave(deeds, day, name), ("leave", plain.comings[name][3]) in rules)
            self.assertEqual(gone, kept)

    def test_turning_days(self):
        for seed, deeds, plain in self.each():
            self.assertEqual(turning_days(deeds), plain.turning(), deeds)


if __name__ == "__main__":
    unittest.main()
