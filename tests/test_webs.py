import unittest

from goneday.errors import NoPaper
from goneday.webs import kind_of, made_of, makers, papers
from tests.samples import NO_PAPERS, in_all_orders, shuffled

ORDERED = (
    ("paper", 5, "b", "k", ()),
    ("paper", 5, "a", "m", ()),
    ("paper", 2, "z", "k", ()),
    ("paper", 9, "aa", "k", ()),
    ("paper", 5, "ab", "n", ()),
)

# The day of coming goes ahead of the name, so z stands ahead of c here.
FAMILY = (
    ("paper", 1, "z", "k", ()),
    ("paper", 2, "c", "k", ()),
    ("paper", 3, "d", "m", ("c", "d", "e", "z")),
    ("paper", 3, "e", "m", ("c", "d")),
    ("paper", 4, "b", "m", ("nobody", "z")),
    ("paper", 5, "a", "m", ("b", "d", "f")),
    ("paper", 5, "f", "m", ("a", "later")),
    ("paper", 6, "later", "m", ()),
    ("happens", 0, "ghost", "read"),
    ("hold", 0, "spirit", ("paper", "spook"), True),
    ("rule", 0, "r", ("while", "k")),
    ("leave", 0, "l", "k"),
)


class TestPapers(unittest.TestCase):
    def test_no_deeds(self):
        self.assertEqual(papers(()), ())

    def test_by_days_and_on_one_day_by_names(self):
        for deeds in in_all_orders(ORDERED):
            self.assertEqual(papers(deeds), ("z", "a", "ab", "b", "aa"))

    def test_only_papers_that_come(self):
        for deeds in in_all_orders(FAMILY):
            self.assertEqual(papers(deeds), ("z", "c", "d", "e", "b", "a", "f", "later"))

    def test_names_that_only_other_deeds_speak_of(self):
        deeds = (("happens", 1, "a", "read"), ("hold", 1, "h", ("paper", "b"), False), ("leave", 1, "c", "k"))
        self.assertEqual(papers(deeds), ())


class TestKinds(unittest.TestCase):
    def test_kinds(self):
        for deeds in in_all_orders(ORDERED):
            self.assertEqual([kind_of(deeds, name) for name in ("a", "b", "z", "aa", "ab")], ["m", "k", "k", "k", "n"])


class TestMakers(unittest.TestCase):
    def test_those_ahead_count_in_order(self):
        for deeds in in_all_orders(FAMILY):
            self.assertEqual(makers(deeds, "z"), ())
            self.assertEqual(makers(deeds, "d"), ("z", "c"))
            self.assertEqual(makers(deeds, "a"), ("d", "b"))

    def test_on_one_day_the_name_tells_what_is_ahead(self):
        for deeds in in_all_orders(FAMILY):
            self.assertEqual(makers(deeds, "e"), ("c", "d"))
            self.assertEqual(makers(deeds, "f"), ("a",))

    def test_makers_that_never_come_do_not_count(self):
        for deeds in in_all_orders(FAMILY):
            self.assertEqual(makers(deeds, "b"), ("z",))

    def test_a_paper_is_no_maker_of_itself(self):
        self.assertEqual(makers((("paper", 0, "a", "k", ("a",)),), "a"), ())
        self.assertEqual(made_of((("paper", 0, "a", "k", ("a",)),), "a"), ())

    def test_a_ring(self):
        ring = (("paper", 3, "a", "k", ("c",)), ("paper", 3, "b", "k", ("a",)), ("paper", 3, "c", "k", ("b",)))
        for deeds in in_all_orders(ring):
            self.assertEqual([makers(deeds, name) for name in "abc"], [(), ("a",), ("b",)])
            self.assertEqual([made_of(deeds, name) for name in "abc"], [("b", "c"), ("c",), ()])

    def test_a_ring_over_several_days(self):
        ring = (("paper", 3, "a", "k", ("b", "c")), ("paper", 1, "b", "k", ("a", "c")), ("paper", 2, "c", "k", ("a", "b")))
        for deeds in in_all_orders(ring):
            self.assertEqual([makers(deeds, name) for name in "abc"], [("b", "c"), (), ("b",)])
            self.assertEqual([made_of(deeds, name) for name in "abc"], [(), ("c", "a"), ("a",)])


class TestMadeOf(unittest.TestCase):
    def test_however_far_and_in_order(self):
        for deeds in in_all_orders(FAMILY):
            self.assertEqual(made_of(deeds, "z"), ("d", "e", "b", "a", "f"))
            self.assertEqual(made_of(deeds, "c"), ("d", "e", "a", "f"))
            self.assertEqual(made_of(deeds, "b"), ("a", "f"))
            self.assertEqual(made_of(deeds, "e"), ())
            self.assertEqual(made_of(deeds, "later"), ())

    def test_by_many_ways_each_once(self):
        names = ["abcdefgh"[place // 8] + "abcdefgh"[place % 8] for place in range(40)]
        deeds = tuple(
            ("paper", place, name, "k", tuple(names[max(0, place - 4):place])) for place, name in enumerate(names)
        )
        for others in (deeds, deeds[::-1], shuffled(deeds, 1)):
            for place, name in enumerate(names):
                self.assertEqual(made_of(others, name), tuple(names[place + 1:]))
                self.assertEqual(makers(others, name), tuple(names[max(0, place - 4):place]))


class TestNoPaper(unittest.TestCase):
    def test_things_of_any_kind(self):
        for ask in (kind_of, makers, made_of):
            for thing in NO_PAPERS:
                for deeds in ((), FAMILY):
                    with self.assertRaises(NoPaper, msg=(ask, thing)):
                        ask(deeds, thing)

    def test_names_that_only_other_deeds_speak_of(self):
        for ask in (kind_of, makers, made_of):
            for name in ("nobody", "ghost", "spirit", "spook", "r", "l", "k", "read"):
                with self.assertRaises(NoPaper, msg=(ask, name)):
                    ask(FAMILY, name)


class TestKinship(unittest.TestCase):
    def test_all_is_told_in_tuples(self):
        for told in (papers(FAMILY), makers(FAMILY, "d"), made_of(FAMILY, "z"), papers(()), makers(FAMILY, "z")):
            self.assertIs(type(told), tuple)


if __name__ == "__main__":
    unittest.main()
