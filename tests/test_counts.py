import unittest

from goneday.counts import sheet, still_made
from goneday.errors import NoPaper
from goneday.plans import there
from goneday.webs import kind_of, made_of
from tests.plain import Plain
from tests.samples import NO_PAPERS, busy_deeds, gone, in_all_orders, shuffled

FAR = 10 ** 9

# In order: z, b, a, c, n; gone are z on 30, b and a on 32, n on 40; c never goes.
DEEDS = (
    ("paper", 10, "z", "m", ()), ("paper", 12, "b", "k", ("z",)), ("paper", 14, "a", "m", ("b", "z")),
    ("paper", 14, "c", "other", ("a", "b", "z")), ("paper", 40, "n", "now", ("c",)),
    gone("r", 20, "m"), gone("s", 20), ("end", 31, "r"), gone("t", 18, "m", day=32), gone("u", 0, "now"),
    ("happens", 50, "ghost", "read"), ("rule", 0, "v", ("while", "late")), ("leave", 60, "l", "third"),
)


class TestSheet(unittest.TestCase):
    def test_by_days(self):
        rows = (
            (0, ()), (9, ()), (10, (("m", 1, 0, 1),)), (11, (("m", 1, 0, 1),)),
            (12, (("k", 1, 0, 1), ("m", 1, 0, 1))), (13, (("k", 1, 0, 1), ("m", 1, 0, 1))),
            (14, (("k", 1, 0, 1), ("m", 2, 0, 2), ("other", 1, 0, 1))),
            (29, (("k", 1, 0, 1), ("m", 2, 0, 2), ("other", 1, 0, 1))),
            (30, (("k", 1, 0, 1), ("m", 2, 1, 1), ("other", 1, 0, 1))),
            (31, (("k", 1, 0, 1), ("m", 2, 1, 1), ("other", 1, 0, 1))),
            (32, (("k", 1, 1, 0), ("m", 2, 2, 0), ("other", 1, 0, 1))),
            (39, (("k", 1, 1, 0), ("m", 2, 2, 0), ("other", 1, 0, 1))),
            (40, (("k", 1, 1, 0), ("m", 2, 2, 0), ("now", 1, 1, 0), ("other", 1, 0, 1))),
            (FAR, (("k", 1, 1, 0), ("m", 2, 2, 0), ("now", 1, 1, 0), ("other", 1, 0, 1))),
        )
        for deeds in in_all_orders(DEEDS):
            for day, told in rows:
                answer = sheet(deeds, day)
                self.assertEqual(answer, told, day)
                for part in (answer,) + answer:
                    self.assertIs(type(part), tuple)

    def test_no_papers(self):
        for day in (0, 31, FAR):
            self.assertEqual(sheet((), day), ())
            self.assertEqual(sheet(tuple(deed for deed in DEEDS if deed[0] != "paper"), day), ())

    def test_one_that_goes_as_it_comes(self):
        deeds = (("paper", 7, "a", "k", ()), gone("r", 0))
        self.assertEqual([sheet(deeds, day) for day in (6, 7, 8)], [(), (("k", 1, 1, 0),), (("k", 1, 1, 0),)])

    def test_against_a_plain_walk(self):
        for seed in range(30):
            deeds = busy_deeds(seed, 30)
            walk = Plain(deeds).walk(range(60))
            for day in (0, 5, 14, 15, 16, 30, 59):
                come = [name for name in walk.plain.order if walk.plain.comings[name][1] <= day]
                rows = []
                for kind in sorted(set(kind_of(deeds, name) for name in come)):
                    names = [name for name in come if kind_of(deeds, name) == kind]
                    left = [name for name in names if name in walk.there(day)]
                    rows.append((kind, len(names), len(names) - len(left), len(left)))
                self.assertEqual(sheet(shuffled(deeds, seed), day), tuple(rows))


class TestStillMade(unittest.TestCase):
    def still(self, deeds, day, paper, many):
        for others in in_all_orders(deeds):
            answer = still_made(others, day, paper)
            self.assertEqual(answer, many, (day, paper))
            self.assertIs(type(answer), int)

    def test_by_days_and_by_several_ways(self):
        rows = ((0, 0), (10, 0), (11, 0), (12, 1), (13, 1), (14, 3), (30, 3), (31, 3), (32, 1), (39, 1), (40, 1), (FAR, 1))
        for day, many in rows:
            self.still(DEEDS, day, "z", many)

    def test_of_other_papers(self):
        for day, paper, many in ((14, "b", 2), (32, "b", 1), (14, "a", 1), (13, "a", 0), (32, "a", 1), (39, "c", 0), (40, "c", 0)):
            self.still(DEEDS, day, paper, many)

    def test_of_which_nothing_is_made(self):
        for day in (0, 14, 40, FAR):
            self.still(DEEDS, day, "n", 0)
            self.still((("paper", 3, "a", "k", ("a",)),), day, "a", 0)

    def test_each_once_by_far_more_ways(self):
        names = ["abcdefgh"[place // 8] + "abcdefgh"[place % 8] for place in range(38)]
        deeds = tuple(
            ("paper", place, name, "k", tuple(names[max(0, place - 4):place])) for place, name in enumerate(names)
        )
        for day, paper, many in ((37, "aa", 37), (36, "aa", 36), (FAR, "ab", 36), (FAR, names[37], 0), (20, names[20], 0)):
            self.assertEqual(still_made(deeds, day, paper), many)
        self.assertEqual(still_made(deeds + (gone("r", 20),), 30, "aa"), 20)

    def test_against_what_is_there(self):
        for seed in range(30):
            deeds = busy_deeds(seed, 30)
            for name in Plain(deeds).order:
                for day in (0, 12, 20, 35, FAR):
                    many = len(set(made_of(deeds, name)) & set(there(deeds, day)))
                    self.assertEqual(still_made(shuffled(deeds, seed), day, name), many)

    def test_no_paper(self):
        for thing in NO_PAPERS + ("ghost", "r", "k", "m", "l", "late", "read"):
            for deeds in ((), DEEDS):
                with self.assertRaises(NoPaper, msg=repr(thing)):
                    still_made(deeds, 14, thing)


if __name__ == "__main__":
    unittest.main()
