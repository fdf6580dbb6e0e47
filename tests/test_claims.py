"""Claims and grounds of drawn deeds, right ones and such as were changed, against a plain reading, day by day."""

import random
import unittest

from goneday.checker import holds
from goneday.plans import plan
from tests.claims import PlainChecker, grounds_of
from tests.samples import busy_deeds, random_deeds, shuffled

NEAR = tuple((many, "days") for many in (0, 1, 3, 9))
LAST = 40


def drawn(seed):
    """Deeds that reckon no further than the last day, more often such by which many papers go."""
    return shuffled(busy_deeds(seed, 12, NEAR) if seed % 4 else random_deeds(seed, 12, NEAR), seed)


def put(things, place, thing):
    return things[:place] + (thing,) + things[place + 1:]


class Changer:
    """Draws small changes of rows and grounds."""

    def __init__(self, seed, checker):
        self.dice = random.Random(seed)
        self.checker = checker

    def day_beside(self, day):
        return self.dice.choice((None, 0, 5) if day is None else (day - 1, day + 1, day + 2, None, True))

    def other_why(self, why):
        names = [name for name in "opqrstuvw"]
        pool = [("none",), ("held", "h"), ("held", "i"), ("lacks", self.dice.choice(names)), why[:-1], why + ("a",), list(why)]
        by = self.dice.choice((None, self.dice.randint(0, 20), self.dice.choice("abcdef"), True))
        return self.dice.choice(pool + [("stays", self.dice.choice(names), by)] * 3)

    def row(self, row):
        place = self.dice.randrange(1, 3)
        leave = self.dice.choice((None, "x", "y", "z", "a", "b", "c"))
        return put(row, place, self.day_beside(row[1]) if place == 1 else leave)

    def stretches(self, stretches):
        if not stretches:
            return stretches + ((self.dice.randint(0, 12), None, ("none",)),)
        place = self.dice.randrange(len(stretches))
        first, last, why = stretches[place]
        sort = self.dice.choice(("first", "last", "why", "why", "why", "cut", "cut", "drop", "split", "border", "border"))
        if sort == "first":
            return put(stretches, place, (self.day_beside(first), last, why))
        if sort == "last":
            return put(stretches, place, (first, self.day_beside(last), why))
        if sort == "why":
            return put(stretches, place, (first, last, self.other_why(why)))
        if sort == "drop":
            return stretches[:place] + stretches[place + 1:]
        if sort == "border" and place + 1 < len(stretches):
            return self.border(stretches, place)
        return self.split(stretches, place, self.other_why(why) if sort == "cut" else why)

    def border(self, stretches, place):
        """The border between two stretches is moved, by a day or so."""
        day = stretches[place][1] + self.dice.choice((-1, 1, 2))
        behind = stretches[place + 1]
        ahead = stretches[place][:1] + (day, stretches[place][2])
        return stretches[:place] + (ahead, (day + 1,) + behind[1:]) + stretches[place + 2:]

    def split(self, stretches, place, why):
        """A stretch is cut in two, and one of the halves tells this."""
        first, last, old = stretches[place]
        day = self.dice.randint(first, LAST - 1 if last is None else last)
        whys = self.dice.choice(((old, why), (why, old)))
        return stretches[:place] + ((first, day, whys[0]), (day + 1, last, whys[1])) + stretches[place + 1:]

    def call(self, why):
        other = (self.dice.choice("opqrstuvw"), self.dice.choice((None, True, self.dice.randint(0, 20), "a", "b")))
        return self.dice.choice((None, other, other) + (() if why is None else ((why[0], self.day_beside(0)), why[:1])))

    def change(self, rows, grounds):
        place = self.dice.randrange(len(rows))
        sort = self.dice.choice(("row", "diary", "diary", "diary", "diary", "call", "both"))
        stretches, why = grounds[place]
        if sort == "row":
            return put(rows, place, self.row(rows[place])), grounds
        if sort == "diary":
            return rows, put(grounds, place, (self.stretches(stretches), why))
        if sort == "call":
            return rows, put(grounds, place, (stretches, self.call(why)))
        return self.moved(rows, grounds, place)

    def moved(self, rows, grounds, place):
        """A paper goes a day earlier or later, by its row and by its diary."""
        stretches, why = grounds[place]
        name, day, leave = rows[place]
        step = self.dice.choice((-1, 1))
        if day is None or not stretches:
            return rows, grounds
        ended = stretches[:-1] + (stretches[-1][:1] + (day - 1 + step, stretches[-1][2]),)
        return put(rows, place, (name, day + step, leave)), put(grounds, place, (ended, why))

    def other_diary(self, paper, going):
        """Another right diary, mostly of short stretches, that tells any of the reasons."""
        day = self.checker.plain.comings[paper][1]
        told = []
        while day < (LAST if going is None else going):
            why = self.dice.choice(self.checker.reasons(day, paper))
            if told and why == told[-1][2] and self.dice.random() < 0.5:
                told[-1] = (told[-1][0], day, why)
            else:
                told.append((day, day, why))
            day += 1
        if going is None:
            told.append((LAST, None, self.dice.choice(self.checker.reasons(LAST, paper))))
        return tuple(told)


class TestClaims(unittest.TestCase):
    seeds = range(60)

    def each(self):
        for seed in self.seeds:
            deeds = drawn(seed)
            if plan(deeds):
                yield deeds, PlainChecker(deeds, LAST), seed

    def test_what_the_house_tells_is_taken(self):
        for deeds, checker, seed in self.each():
            rows, grounds = plan(deeds), grounds_of(deeds)
            self.assertTrue(checker.plan_holds(rows, grounds), deeds)
            self.assertIs(holds(("plan", deeds, rows), grounds), True, deeds)

    def test_other_right_diaries_are_taken(self):
        for deeds, checker, seed in self.each():
            changer = Changer(seed, checker)
            rows, grounds = plan(deeds), grounds_of(deeds)
            for turn in range(3):
                pairs = [(changer.other_diary(row[0], row[1]), pair[1]) for row, pair in zip(rows, grounds)]
                self.assertTrue(checker.plan_holds(rows, tuple(pairs)), deeds)
                self.assertIs(holds(("plan", deeds, rows), tuple(pairs)), True, (deeds, pairs))

    def test_changed_ones_are_taken_where_they_are_right_alone(self):
        met = {True: 0, False: 0}
        for deeds, checker, seed in self.each():
            changer = Changer(seed, checker)
            right = (plan(deeds), grounds_of(deeds))
            for turn in range(60):
                rows, grounds = changer.change(right[0], right[1])
                truth = checker.plan_holds(rows, grounds)
                met[truth] += 1
                self.assertIs(holds(("plan", deeds, rows), grounds), truth, (deeds, rows, grounds))
        # The dice change much, and some of it is still right.
        self.assertGreater(met[True], 100)
        self.assertGreater(met[False], 1000)

    def test_clashes(self):
        met = 0
        for deeds, checker, seed in self.each():
            rows, grounds = plan(deeds), grounds_of(deeds)
            found = [at for at in checker.walk.looks if at[0] < LAST and all(checker.walk.looks[at][:2])]
            for day, paper in found[:2] + found[2::40]:
                met += 1
                staying, going, held, lacking = checker.walk.looks[day, paper]
                self.clash(checker, deeds, rows, day, paper, staying[-1], going[-1], grounds)
                self.clash(checker, deeds, rows, day + 1, paper, staying[0], going[0], grounds)
                self.clash(checker, deeds, rows, day - 1, paper, staying[0], going[0], grounds)
                self.clash(checker, deeds, rows, day, paper, going[0], staying[0], grounds)
        self.assertGreater(met, 50)

    def clash(self, checker, deeds, rows, day, paper, one, other, grounds):
        truth = checker.clash_holds(rows, day, paper, one, other, grounds)
        self.assertIs(holds(("clash", deeds, rows, day, paper, one, other), grounds), truth, (deeds, day, paper))


if __name__ == "__main__":
    unittest.main()
