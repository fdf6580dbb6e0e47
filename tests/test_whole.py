"""What holds over the whole program: told by rows, by deeds or to an archive, in whatever order, it is the same."""

import random
import unittest

from goneday.archive import Archive
from goneday.calls import goes, needs_leave, stays
from goneday.checker import holds
from goneday.clashes import clash, clashing
from goneday.counts import sheet, still_made
from goneday.days import show_day
from goneday.deeds import go_together
from goneday.deedtexts import read_deeds, show_deed, show_deeds
from goneday.desk import Desk
from goneday.errors import GoneMaker
from goneday.moves import moved
from goneday.papers import paper_clash, paper_covered, paper_made, paper_plan
from goneday.plans import plan, there
from goneday.spans import diary, earliest
from goneday.standing import covering, holds_on, reckoning, rules_on
from goneday.turning import turning_days
from goneday.webs import kind_of, made_of, makers, papers
from tests.samples import KEEP, LONG, SHORT, busy_deeds, shuffled

LAST = 99999


def drawn(seed):
    return busy_deeds(seed, (40, 400, LAST)[seed % 3], SHORT + LONG)


def on_paper(told):
    """What is told but for the deeds, which are told as handed in."""
    return None if told is None else (told[0][:1] + told[0][2:], told[1])


def told_of_papers(deeds, day, gone):
    rows = []
    for name in papers(deeds):
        rows.append((kind_of(deeds, name), makers(deeds, name), made_of(deeds, name), covering(deeds, day, name)))
        rows.append((reckoning(deeds, KEEP, name, day), stays(deeds, day, name, gone), goes(deeds, day, name, gone)))
        rows.append((needs_leave(deeds, day, name), earliest(deeds, name), diary(deeds, name), still_made(deeds, day, name)))
        rows.append([on_paper(paper_covered(deeds, day, name, hold)) for hold in "hi"])
        rows.append([on_paper(paper_made(deeds, name, other)) for other in papers(deeds)])
    return rows


def all_told(deeds, day, gone):
    """What each function tells of some deeds."""
    return (
        go_together(deeds), papers(deeds), rules_on(deeds, day), holds_on(deeds, day), turning_days(deeds), plan(deeds),
        there(deeds, day), clash(deeds), clashing(deeds, day), moved(deeds, deeds[::-1]), moved(deeds, drawn(5)),
        moved(drawn(6), deeds), sheet(deeds, day), on_paper(paper_plan(deeds)), on_paper(paper_clash(deeds)),
        told_of_papers(deeds, day, gone),
    )


class TestOrders(unittest.TestCase):
    def test_each_function_tells_the_same_in_other_orders(self):
        for seed in range(9):
            deeds = drawn(seed)
            day = random.Random(seed).choice(turning_days(deeds))
            gone = {name: went for name, went, leave in plan(deeds)[::2] if went is not None}
            kept = dict(gone)
            told = all_told(deeds, day, gone)
            for others in (deeds[::-1], shuffled(deeds, seed), shuffled(deeds, seed + 1)):
                self.assertEqual(all_told(others, day, gone), told)
            self.assertEqual(gone, kept)

    def test_deeds_are_told_as_handed_in(self):
        for seed in range(9):
            for deeds in (drawn(seed), drawn(seed)[::-1], shuffled(drawn(seed), seed)):
                self.assertEqual(read_deeds(show_deeds(deeds)), deeds)
                self.assertEqual(paper_plan(deeds)[0][1], deeds)


class TestByRows(unittest.TestCase):
    def tell(self, seed):
        """The same acts told to a desk by rows and to an archive, but what is refused."""
        desk, archive = Desk(), Archive(0)
        for deed in shuffled(drawn(seed), seed):
            try:
                number = archive.enter(deed)
            except GoneMaker:
                with self.assertRaises(GoneMaker):
                    desk.say("enter " + show_deed(deed))
            else:
                self.assertEqual(desk.say("enter " + show_deed(deed)), str(number))
            self.same(desk, archive, archive.known(0))
        return desk, archive

    def same(self, desk, archive, deeds):
        """By rows, by the archive and by the functions the same is told."""
        rows = [f"{name} {'never' if day is None else show_day(day)}" for name, day, leave in plan(deeds)]
        self.assertEqual(desk.say("plan"), ", ".join(rows))
        found = clash(deeds)
        text = "none" if found is None else f"{show_day(found[0])} {found[1]} {found[2][0]} {found[3][0]}"
        self.assertEqual(desk.say("clash"), text)
        self.assertEqual(desk.say("there"), ", ".join(archive.there()))
        self.assertEqual(desk.say("known " + show_day(archive.present())), str(len(deeds)))
        self.assertEqual(desk.say("done"), ", ".join(f"{name} {show_day(day)}" for name, day, leave in archive.done()))
        self.assertEqual(desk.say("wrong"), ", ".join(f"{name} {show_day(day)} {act}" for name, day, act in archive.wrong()))
        self.assertEqual(desk.say("paper"), "holds")

    def same_days(self, desk, deeds, seed):
        dice = random.Random(seed)
        days = [day for day in turning_days(deeds) if day <= LAST]
        for day in dice.sample(days, min(4, len(days))) + [dice.randint(0, LAST)]:
            self.assertEqual(desk.say("there " + show_day(day)), ", ".join(there(deeds, day)))
            for name in papers(deeds):
                self.assertEqual(desk.say(f"why {name} {show_day(day)}"), self.why(deeds, name, day))

    def why(self, deeds, name, day):
        if name in there(deeds, day):
            return [" ".join(why[:2]) for first, last, why in diary(deeds, name) if first <= day and (last is None or day <= last)][0]
        come = [deed[1] for deed in deeds if deed[:1] + deed[2:3] == ("paper", name)][0]
        return "not yet" if day < come else "gone"

    def test_drawn_deeds(self):
        for seed in range(12):
            desk, archive = self.tell(seed)
            self.same_days(desk, archive.known(0), seed)
            for day in sorted(random.Random(seed).sample(range(1, 60), 3)) + [LAST]:
                self.assertEqual(desk.say("turn " + show_day(day)), "ok")
                archive.turn(day)
                self.same(desk, archive, archive.known(day))
            self.strike_some(desk, archive, seed)

    def strike_some(self, desk, archive, seed):
        many = len(archive.known(LAST))
        for number in random.Random(seed).sample(range(many), min(8, many)):
            self.assertEqual(desk.say(f"strike {number}"), str(archive.strike(number)))
            self.same(desk, archive, archive.known(LAST))
            self.assertEqual(len(archive.known(0)), many)


class TestThePromise(unittest.TestCase):
    def lacks(self, deeds, day, name):
        """Whether a paper needs a leave at its turn on a day, and none is unused."""
        order = papers(deeds)
        used = [row[2] for row in plan(deeds) if row[1] is not None and (row[1], order.index(row[0])) < (day, order.index(name))]
        kind = kind_of(deeds, name)
        given = [deed[2] for deed in deeds if deed[0] == "leave" and deed[3] == kind and deed[1] <= day]
        return needs_leave(deeds, day, name) and not [leave for leave in given if leave not in used]

    def is_barred(self, deeds, day, name, gone):
        return bool(stays(deeds, day, name, gone) or covering(deeds, day, name) or self.lacks(deeds, day, name))

    def test_what_is_there_and_what_goes(self):
        for seed in range(15):
            deeds = drawn(seed)
            gone = {name: day for name, day, leave in plan(deeds) if day is not None}
            for day in turning_days(deeds):
                for name in there(deeds, day):
                    if goes(deeds, day, name, gone):
                        self.assertTrue(self.is_barred(deeds, day, name, gone), (deeds, day, name))
            for name, day in gone.items():
                self.assertTrue(goes(deeds, day, name, gone), (deeds, day, name))
                self.assertFalse(self.is_barred(deeds, day, name, gone), (deeds, day, name))

    def test_whatever_the_house_tells_the_checker_takes(self):
        for seed in range(30):
            deeds = drawn(seed)
            told = [paper_plan(deeds), paper_clash(deeds)]
            gone = {name: day for name, day, leave in plan(deeds) if day is not None}
            for name in papers(deeds):
                told += [paper_made(deeds, name, other) for other in papers(deeds)]
                for day in turning_days(deeds)[::9]:
                    told += [paper_covered(deeds, day, name, hold) for hold in covering(deeds, day, name)]
                    for rule, by in stays(deeds, day, name, gone) + goes(deeds, day, name, gone):
                        word = dict(rules_on(deeds, day))[rule][0]
                        if word in ("keep", "gone"):
                            claim = ({"keep": "stays", "gone": "due"}[word], deeds, day, name, rule, by)
                            told.append((claim, None))
            for claim, grounds in [one for one in told if one is not None]:
                self.assertIs(holds(claim, grounds), True, claim)


if __name__ == "__main__":
    unittest.main()
