import random
import unittest

from goneday.archive import Archive
from goneday.errors import GoneMaker, Held, MustStay, NoDay, NoDeed, NoLeave, NoNumber, NoPaper, Twice
from goneday.plans import plan
from tests.samples import DEEDS, LONG, NO_PAPERS, NO_PARTS, SHORT, busy_deeds, gone, keep, shuffled

A = ("paper", 5, "a", "k", ())
B = ("paper", 9, "b", "k", ("a",))
NEEDS = ("rule", 0, "n", ("leave", "k"))
FOLLOW = ("rule", 0, "f", ("follow", "k"))
WHILE = ("rule", 0, "w", ("while", "k"))
HOLD = ("hold", 0, "h", ("paper", "a"), False)
GONE = gone("r", 10)

# What is no number of an act and no day, whatever an archive holds.
NO_NUMBERS = (None, True, False, -1, 10 ** 9, "0", "", "a", [], {}, (), [0], (0,), {0: 0}, ["a", {"b": ()}], ((((0,),),),))


def archive_of(day, *deeds):
    made = Archive(day)
    for deed in deeds:
        made.enter(deed)
    return made


class Telling(unittest.TestCase):
    def all_told(self, archive):
        """All that an archive tells."""
        days = []
        for day in list(range(60)) + [99998, 99999]:
            try:
                days.append(archive.known(day))
            except NoDay:
                days.append(None)
        return (archive.present(), archive.there(), archive.done(), archive.wrong(), days)

    def refused(self, archive, error, ask, thing, **fields):
        """It is refused so, and changes nothing."""
        told = self.all_told(archive)
        with self.assertRaises(error, msg=repr(thing)) as caught:
            ask(thing)
        self.assertIs(type(caught.exception), error, repr(thing))
        for field, value in fields.items():
            self.assertEqual(getattr(caught.exception, field), value)
        self.assertEqual(self.all_told(archive), told)


class TestActs(Telling):
    def test_numbers_of_entering_and_striking_alike(self):
        archive = Archive(0)
        self.assertEqual(archive.enter(A), 0)
        self.assertEqual(archive.enter(B), 1)
        self.assertEqual(archive.strike(0), 2)
        self.assertEqual(archive.enter(GONE), 3)
        self.assertEqual(archive.strike(3), 4)
        self.assertEqual(archive.enter(A), 5)
        self.assertEqual(archive.strike(5), 6)

    def test_a_refused_one_takes_no_number(self):
        archive = archive_of(0, A)
        for ask, thing, error in (
            (archive.enter, None, NoDeed), (archive.enter, A, Twice), (archive.strike, 7, NoNumber), (archive.turn, 0, NoDay),
            (archive.let_go, "a", NoPaper),
        ):
            self.refused(archive, error, ask, thing)
        self.assertEqual(archive.enter(B), 1)

    def test_turning_and_letting_go_are_no_acts(self):
        archive = archive_of(5, A)
        self.assertIsNone(archive.let_go("a"))
        self.assertIsNone(archive.turn(6))
        self.assertEqual(archive.enter(GONE), 1)

    def test_known_from_the_entering_till_the_striking(self):
        archive = Archive(3)
        self.assertEqual(archive.known(3), ())
        archive.enter(B)
        archive.enter(A)
        self.assertEqual(archive.known(3), (B, A))
        archive.strike(0)
        self.assertEqual(archive.known(3), (A,))
        archive.enter(B)
        self.assertEqual(archive.known(3), (A, B))

    def test_deeds_of_every_word(self):
        archive = Archive(0)
        self.assertEqual([archive.enter(deed) for deed in DEEDS], list(range(len(DEEDS))))
        self.assertEqual(archive.known(0), DEEDS)
        self.assertEqual([archive.strike(place) for place in range(len(DEEDS))], list(range(10, 10 + len(DEEDS))))
        self.assertEqual(archive.known(0), ())

    def test_forty_deeds_struck_ones_among_them(self):
        deeds = tuple(("happens", day, "a", "read") for day in range(40))
        archive = archive_of(0, *deeds)
        for place in range(0, 40, 2):
            archive.strike(place)
        self.assertEqual(archive.known(0), deeds[1::2])

    def test_what_is_told_is_of_tuples(self):
        archive = archive_of(0, A, B, GONE)
        archive.turn(30)
        archive.strike(2)
        for told in (archive.known(30), archive.known(3), archive.there(), archive.done(), archive.wrong()):
            for part in (told,) + tuple(row for row in told if not isinstance(row, str)):
                self.assertIs(type(part), tuple)


class TestNoDeed(Telling):
    def test_things_of_any_kind(self):
        archive = archive_of(0, A, GONE)
        for thing in NO_PARTS + NO_NUMBERS + (list(A), A[:-1], A + ("a",), ("paper", 100000) + A[2:], ("paper", True) + A[2:]):
            self.refused(archive, NoDeed, archive.enter, thing)
        self.refused(archive, NoDeed, archive.enter, ("paper", 5, "a", "k", ("b", "a")))
        self.refused(archive, NoDeed, archive.enter, ("hold", 0, "h", ("paper", "a"), 1))
        self.refused(archive, NoDeed, archive.enter, ("rule", 0, "r", ["leave", "k"]))


class TestTwice(Telling):
    def test_the_first_known_deed_that_quarrels(self):
        archive = archive_of(0, NEEDS, ("lift", 4, "h"), A, ("leave", 3, "l", "k"), ("happens", 3, "a", "read"))
        for deed, number in (
            (A, 2), (("paper", 77, "a", "m", ("b",)), 2), (("end", 0, "n"), 0), (("hold", 4, "h", ("kind", "k"), True), 1),
            (("leave", 9, "l", "m"), 3), (("happens", 3, "a", "read"), 4), (("lift", 4, "h"), 1),
        ):
            self.refused(archive, Twice, archive.enter, deed, number=number)

    def test_no_struck_one(self):
        archive = archive_of(0, B, A)
        archive.strike(1)
        self.assertEqual(archive.enter(A), 3)
        self.refused(archive, Twice, archive.enter, A, number=3)
        archive.strike(3)
        self.assertEqual(archive.enter(("paper", 6, "a", "m", ())), 5)
        self.refused(archive, Twice, archive.enter, A, number=5)

    def test_ahead_of_gone_makers(self):
        archive = archive_of(0, A, B, gone("r", 0))
        self.refused(archive, Twice, archive.enter, ("paper", 20, "b", "k", ("a",)), number=1)


class TestGoneMaker(Telling):
    def bars(self, deeds, day, name, makers=("a",)):
        archive = archive_of(0, *deeds)
        coming = ("paper", day, "new", "m", makers)
        if name is None:
            self.assertEqual(archive.enter(coming), len(deeds))
        else:
            self.refused(archive, GoneMaker, archive.enter, coming, paper=name)

    def test_one_that_went_by_the_plan(self):
        for day, name in ((5, None), (14, None), (15, "a"), (16, "a"), (99999, "a")):
            self.bars((A, GONE), day, name)
            self.bars((GONE, A, ("end", 16, "r")), day, name)

    def test_one_that_is_called_whatever_bars_it(self):
        for bar in (HOLD, NEEDS, keep("s", 999)):
            for day, name in ((14, None), (15, "a"), (39, "a"), (40, None)):
                self.bars((A, GONE, bar, ("end", 40, "r")), day, name)

    def test_one_that_is_called_at_its_turn(self):
        # On day 15 a goes ahead of b, which a hold bars from following it.
        deeds = (A, B, ("hold", 0, "h", ("paper", "b"), False), FOLLOW, gone("r", 0, day=15), ("end", 16, "f"), ("end", 16, "r"))
        for day, name in ((14, None), (15, "b"), (16, None)):
            self.bars(deeds, day, name, ("b",))

    def test_one_that_was_let_go(self):
        archive = archive_of(12, A)
        archive.let_go("a")
        archive.turn(30)
        self.refused(archive, GoneMaker, archive.enter, ("paper", 12, "b", "k", ("a",)), paper="a")
        self.refused(archive, GoneMaker, archive.enter, ("paper", 13, "b", "k", ("a",)), paper="a")
        self.assertEqual(archive.enter(("paper", 11, "b", "k", ("a",))), 1)

    def test_the_first_in_order(self):
        papers = (("paper", 3, "x", "k", ()), ("paper", 2, "y", "m", ()), ("paper", 1, "z", "k", ()))
        self.bars(papers + (GONE,), 20, "z", ("x", "y", "z"))
        self.bars(papers + (GONE,), 12, "z", ("x", "y", "z"))
        self.bars(papers + (GONE,), 20, "x", ("x", "y"))
        self.bars(papers + (GONE,), 20, None, ("y",))
        archive = archive_of(4, *papers, GONE)
        archive.let_go("y")
        self.refused(archive, GoneMaker, archive.enter, ("paper", 10, "b", "m", ("x", "y", "z")), paper="y")
        self.refused(archive, GoneMaker, archive.enter, ("paper", 11, "b", "m", ("x", "y", "z")), paper="z")

    def test_makers_that_do_not_count(self):
        self.bars((GONE,), 20, None, ("ghost",))
        self.bars((("paper", 20, "z", "k", ()), gone("r", 0)), 20, None, ("z",))
        self.bars((("paper", 21, "a", "k", ()), gone("r", 0)), 20, None)
        self.bars((("paper", 20, "a", "k", ()), gone("r", 0)), 20, "a")

    def test_a_struck_maker_that_was_let_go_does_not_count(self):
        archive = archive_of(12, A)
        archive.let_go("a")
        archive.strike(0)
        self.assertEqual(archive.enter(("paper", 20, "b", "k", ("a",))), 2)

    def test_by_the_plan_of_what_is_known_now(self):
        archive = archive_of(0, A, GONE)
        coming = ("paper", 20, "b", "m", ("a",))
        self.refused(archive, GoneMaker, archive.enter, coming, paper="a")
        archive.strike(1)
        self.assertEqual(archive.enter(coming), 3)
        # What is known already isn't looked at again.
        self.assertEqual(archive.enter(GONE), 4)

    def test_other_deeds_of_gone_papers(self):
        archive = archive_of(0, A, GONE)
        self.assertEqual(archive.enter(("happens", 50, "a", "read")), 2)
        self.assertEqual(archive.enter(("hold", 50, "h", ("paper", "a"), True)), 3)


class TestNoNumber(Telling):
    def test_things_of_any_kind(self):
        archive = archive_of(0, A, B)
        archive.strike(0)
        for thing in NO_NUMBERS + NO_PARTS + (0, 2, 3, 99):
            self.refused(archive, NoNumber, archive.strike, thing)
        self.assertEqual(archive.strike(1), 3)

    def test_no_truths(self):
        archive = archive_of(0, A, B)
        self.refused(archive, NoNumber, archive.strike, True)
        self.refused(archive, NoNumber, archive.strike, False)

    def test_none_of_no_acts(self):
        archive = Archive(0)
        self.refused(archive, NoNumber, archive.strike, 0)


class TestTurning(Telling):
    def test_made_of_a_day(self):
        for day in (0, 1, 99999):
            self.assertEqual(Archive(day).present(), day)
        for thing in NO_NUMBERS + (100000, -99999):
            with self.assertRaises(NoDay, msg=repr(thing)):
                Archive(thing)

    def test_to_greater_days_alone(self):
        archive = archive_of(4, A)
        for thing in NO_NUMBERS + NO_PARTS + (4, 3, 0, 100000):
            self.refused(archive, NoDay, archive.turn, thing)
        for day in (5, 7, 99999):
            self.assertIsNone(archive.turn(day))
            self.assertEqual(archive.present(), day)
        self.refused(archive, NoDay, archive.turn, 99999)
        self.refused(archive, NoDay, archive.turn, 100000)

    def test_no_truth_is_a_day(self):
        archive = Archive(0)
        self.refused(archive, NoDay, archive.turn, True)
        self.assertIsNone(archive.turn(1))

    def test_days_are_closed_up_to_the_one_ahead_of_the_new_one(self):
        archive = archive_of(0, A, GONE)
        archive.turn(15)
        self.assertEqual(archive.done(), ())
        archive.turn(16)
        self.assertEqual(archive.done(), (("a", 15, None),))

    def test_from_the_first_day_of_the_archive_on(self):
        archive = archive_of(50, A, B, GONE)
        archive.turn(51)
        self.assertEqual(archive.done(), (("a", 50, None), ("b", 50, None)))

    def test_what_an_act_of_the_present_day_made_fit_goes_as_it_is_closed(self):
        archive = archive_of(0, A, HOLD, GONE)
        archive.turn(33)
        self.assertEqual(archive.done(), ())
        archive.strike(1)
        archive.turn(60)
        self.assertEqual(archive.done(), (("a", 33, None),))

    def test_a_late_leave(self):
        archive = archive_of(0, A, NEEDS, GONE)
        archive.turn(33)
        archive.enter(("leave", 2, "l", "k"))
        archive.turn(60)
        self.assertEqual(archive.done(), (("a", 33, "l"),))

    def test_follows_what_was_let_go_by_hand(self):
        archive = archive_of(12, A, B, ("paper", 9, "c", "k", ("b",)), FOLLOW)
        archive.let_go("a")
        self.assertEqual(archive.done(), (("a", 12, None),))
        archive.turn(40)
        self.assertEqual(archive.done(), (("a", 12, None), ("b", 12, None), ("c", 12, None)))

    def test_the_archive_s_own_goings_in_the_place_of_the_plan_s(self):
        # By the plan a would have gone on day 15, so b would be free to go on 19.
        archive = archive_of(0, A, B, WHILE, HOLD, GONE)
        archive.turn(30)
        archive.strike(3)
        archive.enter(("hold", 30, "h", ("paper", "a"), False))
        self.assertEqual(plan(archive.known(30)), (("a", 15, None), ("b", 19, None)))
        archive.turn(60)
        self.assertEqual(archive.done(), ())
        archive.enter(("lift", 60, "h"))
        archive.turn(61)
        self.assertEqual(archive.done(), (("a", 60, None), ("b", 60, None)))

    def test_what_was_let_go_stays_so(self):
        archive = archive_of(0, A, GONE)
        archive.turn(20)
        archive.strike(1)
        archive.enter(keep("s", 500))
        archive.enter(HOLD)
        self.assertEqual((archive.done(), archive.there()), ((("a", 15, None),), ()))
        archive.turn(99999)
        self.assertEqual((archive.done(), archive.there()), ((("a", 15, None),), ()))

    def test_to_the_last_day(self):
        archive = archive_of(0, ("paper", 99998, "a", "k", ()), ("paper", 99999, "b", "k", ()), gone("r", 0))
        archive.turn(99999)
        self.assertEqual((archive.done(), archive.there()), ((("a", 99998, None),), ("b",)))

    def test_closed_at_once_they_go_as_by_the_plan(self):
        for seed in range(30):
            deeds = busy_deeds(seed, 40, SHORT + LONG)
            # A coming is refused where its makers have gone, so papers are entered ahead of rules.
            papers = [deed for deed in deeds if deed[0] == "paper"]
            rest = shuffled([deed for deed in deeds if deed[0] != "paper"], seed)
            archive = archive_of(0, *papers, *rest)
            archive.turn(99999)
            rows = [row for row in plan(deeds) if row[1] is not None and row[1] < 99999]
            self.assertEqual(sorted(archive.done()), sorted(rows))
            self.assertEqual(archive.wrong(), ())

    def test_closed_one_by_one_and_at_once_alike(self):
        for seed in range(15):
            deeds = sorted(busy_deeds(seed, 40), key=lambda deed: deed[0] != "paper")
            one, other = archive_of(0, *deeds), archive_of(0, *deeds)
            stops = sorted(random.Random(seed).sample(range(1, 60), 4)) + [60]
            for day in range(1, 61):
                one.turn(day)
                if day in stops:
                    other.turn(day)
                    self.assertEqual(self.all_told(one), self.all_told(other))

    def test_whatever_the_order_of_the_acts(self):
        for seed in range(15):
            deeds = sorted(busy_deeds(seed, 40), key=lambda deed: deed[0] != "paper")
            papers = len([deed for deed in deeds if deed[0] == "paper"])
            one = archive_of(0, *deeds)
            other = archive_of(0, *shuffled(deeds[:papers], seed), *shuffled(deeds[papers:], seed))
            for archive in (one, other):
                archive.turn(50)
            self.assertEqual((one.there(), one.done()), (other.there(), other.done()))
            self.assertEqual(sorted(one.known(20), key=repr), sorted(other.known(20), key=repr))


class TestUsedUp(Telling):
    leaves = (("leave", 1, "l", "k"), ("leave", 2, "o", "k"))

    def test_the_least_day_then_the_least_name(self):
        archive = archive_of(0, A, B, NEEDS, GONE, ("leave", 3, "x", "k"), ("leave", 2, "z", "k"), ("leave", 2, "y", "k"))
        archive.turn(30)
        self.assertEqual(archive.done(), (("a", 15, "y"), ("b", 19, "z")))

    def test_a_used_name_stays_so(self):
        archive = archive_of(0, A, B, NEEDS, GONE, self.leaves[0])
        archive.turn(40)
        self.assertEqual(archive.done(), (("a", 15, "l"),))
        archive.strike(4)
        archive.enter(("leave", 20, "l", "k"))
        archive.turn(50)
        self.assertEqual(archive.there(), ("b",))
        self.refused(archive, NoLeave, archive.let_go, "b")
        archive.enter(self.leaves[1])
        archive.turn(60)
        self.assertEqual(archive.done(), (("a", 15, "l"), ("b", 50, "o")))

    def test_a_used_name_of_another_kind_stays_so(self):
        archive = archive_of(0, A, NEEDS, GONE, self.leaves[0], ("paper", 0, "m", "m", ()), ("rule", 0, "p", ("leave", "m")))
        archive.turn(40)
        archive.strike(3)
        archive.enter(("leave", 0, "l", "m"))
        self.refused(archive, NoLeave, archive.let_go, "m")

    def test_none_is_used_up_where_none_is_needed(self):
        archive = archive_of(0, A, GONE, *self.leaves)
        archive.turn(40)
        self.assertEqual(archive.done(), (("a", 15, None),))

    def test_a_name_let_go_stays_so(self):
        archive = archive_of(0, A, GONE)
        archive.turn(30)
        self.refused(archive, Twice, archive.enter, ("paper", 40, "a", "m", ()), number=0)
        archive.strike(0)
        for coming in (A, ("paper", 0, "a", "m", ()), ("paper", 15, "a", "m", ()), ("paper", 99999, "a", "k", ())):
            self.refused(archive, GoneMaker, archive.enter, coming, paper="a")

    def test_its_own_name_ahead_of_its_makers(self):
        archive = archive_of(0, A, B, GONE)
        archive.turn(30)
        self.refused(archive, Twice, archive.enter, B, number=1)
        archive.strike(1)
        self.refused(archive, GoneMaker, archive.enter, B, paper="b")
        self.refused(archive, GoneMaker, archive.enter, ("paper", 40, "b", "k", ("a",)), paper="b")
        self.refused(archive, GoneMaker, archive.enter, ("paper", 40, "c", "k", ("a",)), paper="a")


class TestByHand(Telling):
    def test_no_call_is_needed(self):
        archive = archive_of(5, A, B)
        self.assertIsNone(archive.let_go("a"))
        self.assertEqual((archive.done(), archive.there(), archive.wrong()), ((("a", 5, None),), (), ()))

    def test_no_paper(self):
        archive = archive_of(8, A, B, HOLD, ("happens", 3, "ghost", "read"), ("paper", 0, "z", "k", ()))
        archive.let_go("z")
        for thing in NO_PAPERS + NO_NUMBERS + NO_PARTS + ("b", "ghost", "z", "h", "k"):
            if thing != "a":
                self.refused(archive, NoPaper, archive.let_go, thing)
        archive.strike(0)
        self.refused(archive, NoPaper, archive.let_go, "a")

    def test_a_paper_that_comes_on_the_present_day(self):
        archive = archive_of(8, A, B)
        self.refused(archive, NoPaper, archive.let_go, "b")
        archive.turn(9)
        archive.let_go("b")
        self.assertEqual(archive.done(), (("b", 9, None),))
        self.refused(archive, NoPaper, archive.let_go, "b")

    def test_must_stay_by_the_least_rule(self):
        archive = archive_of(6, A, keep("t", 30), keep("s", 20), keep("q", 2), HOLD, NEEDS)
        for day, rule in ((6, "q"), (7, "s"), (24, "s"), (25, "t"), (34, "t")):
            if day > 6:
                archive.turn(day)
            self.refused(archive, MustStay, archive.let_go, "a", rule=rule)

    def test_must_stay_where_nothing_happened(self):
        archive = archive_of(6, A, keep("t", 0, since=("first", "read")))
        self.refused(archive, MustStay, archive.let_go, "a", rule="t")
        archive.enter(("happens", 6, "a", "read"))
        self.assertIsNone(archive.let_go("a"))

    def test_must_stay_as_far_as_all_goings_done_go(self):
        archive = archive_of(9, A, B, WHILE)
        self.refused(archive, MustStay, archive.let_go, "b", rule="w")
        archive.let_go("a")
        self.assertIsNone(archive.let_go("b"))
        self.assertEqual(archive.done(), (("a", 9, None), ("b", 9, None)))

    def test_held_by_the_least_hold(self):
        archive = archive_of(5, A, ("hold", 0, "i", ("paper", "a"), False), ("hold", 0, "h", ("kind", "k"), True),
                             ("lift", 20, "h"), NEEDS)
        for day, hold in ((5, "h"), (19, "h"), (20, "i")):
            if day > 5:
                archive.turn(day)
            self.refused(archive, Held, archive.let_go, "a", hold=hold)

    def test_held_however_far(self):
        archive = archive_of(9, A, B, ("hold", 0, "h", ("paper", "a"), True))
        self.refused(archive, Held, archive.let_go, "b", hold="h")

    def test_leaves(self):
        archive = archive_of(6, A, B, NEEDS, ("leave", 7, "y", "k"), ("leave", 7, "x", "k"), ("leave", 5, "w", "m"))
        self.refused(archive, NoLeave, archive.let_go, "a")
        archive.turn(10)
        archive.let_go("b")
        archive.let_go("a")
        self.assertEqual(archive.done(), (("b", 10, "x"), ("a", 10, "y")))
        archive.enter(("paper", 10, "c", "k", ()))
        self.refused(archive, NoLeave, archive.let_go, "c")


class TestKnown(Telling):
    def test_of_each_day(self):
        archive = archive_of(3, B, A)
        archive.turn(6)
        archive.strike(0)
        archive.turn(7)
        archive.enter(GONE)
        archive.enter(B)
        archive.turn(9)
        archive.strike(1)
        told = {3: (B, A), 4: (B, A), 5: (B, A), 6: (A,), 7: (A, GONE, B), 8: (A, GONE, B), 9: (GONE, B)}
        for day, deeds in told.items():
            self.assertEqual(archive.known(day), deeds)
        archive.turn(50)
        archive.strike(3)
        told[50] = (B,)
        for day in range(10, 50):
            told[day] = (GONE, B)
        for day, deeds in told.items():
            self.assertEqual(archive.known(day), deeds)

    def test_no_other_things(self):
        archive = archive_of(3, A)
        archive.turn(6)
        for thing in NO_NUMBERS + NO_PARTS + (0, 2, 7, 99999, 100000):
            self.refused(archive, NoDay, archive.known, thing)

    def test_no_truth_is_a_day(self):
        archive = archive_of(0, A)
        archive.turn(6)
        for thing in (True, False):
            self.refused(archive, NoDay, archive.known, thing)

    def test_no_deeds(self):
        archive = Archive(0)
        archive.turn(2)
        self.assertEqual([archive.known(day) for day in (0, 1, 2)], [(), (), ()])


class TestThere(Telling):
    def test_in_order(self):
        archive = archive_of(4, B, A, ("paper", 4, "z", "k", ()), ("paper", 5, "c", "k", ()))
        self.assertEqual(archive.there(), ("z",))
        archive.turn(5)
        self.assertEqual(archive.there(), ("z", "a", "c"))
        archive.turn(9)
        self.assertEqual(archive.there(), ("z", "a", "c", "b"))
        archive.let_go("a")
        archive.strike(3)
        self.assertEqual(archive.there(), ("z", "b"))

    def test_what_is_called_but_not_yet_closed_is_there(self):
        archive = archive_of(50, A, GONE)
        self.assertEqual(archive.there(), ("a",))
        archive.turn(51)
        self.assertEqual(archive.there(), ())


class TestWrong(Telling):
    def closed(self, *deeds):
        archive = archive_of(0, *deeds)
        archive.turn(40)
        return archive

    def test_none(self):
        self.assertEqual(Archive(0).wrong(), ())
        self.assertEqual(self.closed(A, B, GONE).wrong(), ())

    def test_a_coming_struck(self):
        archive = self.closed(A, B, GONE)
        archive.strike(1)
        self.assertEqual(archive.wrong(), (("b", 19, 3),))
        archive.strike(0)
        self.assertEqual(archive.wrong(), (("a", 15, 4), ("b", 19, 3)))

    def test_a_late_hold(self):
        for day, rows in ((0, (("a", 15, 2),)), (15, (("a", 15, 2),)), (16, ())):
            archive = self.closed(A, GONE)
            archive.enter(("hold", day, "h", ("paper", "a"), False))
            self.assertEqual(archive.wrong(), rows)

    def test_a_late_rule_to_stay(self):
        for many, rows in ((10, ()), (11, (("a", 15, 2),))):
            archive = self.closed(A, GONE)
            archive.enter(keep("s", many))
            self.assertEqual(archive.wrong(), rows)

    def test_the_rule_that_called_is_struck(self):
        archive = self.closed(A, GONE)
        archive.strike(1)
        self.assertEqual(archive.wrong(), (("a", 15, 2),))
        archive.enter(gone("q", 3))
        self.assertEqual(archive.wrong(), ())

    def test_leaves(self):
        archive = self.closed(A, NEEDS, ("leave", 1, "l", "k"), ("leave", 2, "o", "k"), GONE)
        self.assertEqual(archive.done(), (("a", 15, "l"),))
        archive.strike(3)
        self.assertEqual(archive.wrong(), ())
        archive.strike(2)
        self.assertEqual(archive.wrong(), (("a", 15, 6),))
        # Another leave doesn't make up for it, nor the name with another kind, or later.
        for deed in (("leave", 0, "p", "k"), ("leave", 1, "l", "m"), ("leave", 16, "l", "k")):
            number = archive.enter(deed)
            self.assertEqual(archive.wrong(), (("a", 15, 6),))
            archive.strike(number)
        archive.enter(("leave", 15, "l", "k"))
        self.assertEqual(archive.wrong(), ())

    def test_a_late_rule_that_asks_for_a_leave(self):
        archive = self.closed(A, GONE, ("leave", 0, "l", "k"))
        archive.enter(NEEDS)
        self.assertEqual(archive.wrong(), (("a", 15, 3),))

    def test_turned_wrong_right_again_and_wrong_again(self):
        archive = self.closed(A, GONE)
        archive.enter(HOLD)
        self.assertEqual(archive.wrong(), (("a", 15, 2),))
        archive.enter(keep("s", 50))
        self.assertEqual(archive.wrong(), (("a", 15, 2),))
        archive.strike(2)
        self.assertEqual(archive.wrong(), (("a", 15, 2),))
        archive.strike(3)
        self.assertEqual(archive.wrong(), ())
        archive.enter(("happens", 3, "a", "read"))
        self.assertEqual(archive.wrong(), ())
        archive.enter(("end", 15, "r"))
        self.assertEqual(archive.wrong(), (("a", 15, 7),))

    def test_as_far_as_the_goings_done_ahead_of_it_go(self):
        archive = self.closed(A, B, ("paper", 9, "c", "k", ("b",)), FOLLOW, gone("r", 10, since=("first", "read")),
                              ("happens", 5, "a", "read"))
        self.assertEqual(archive.done(), (("a", 15, None), ("b", 15, None), ("c", 15, None)))
        # The going of a isn't right any more, but it was done, so what followed it did so rightly.
        archive.enter(HOLD)
        self.assertEqual(archive.wrong(), (("a", 15, 6),))
        archive.strike(0)
        self.assertEqual(archive.wrong(), (("a", 15, 6), ("b", 15, 7)))

    def test_a_while_rule_and_a_maker_that_went_later(self):
        archive = archive_of(9, A, B)
        archive.let_go("b")
        archive.let_go("a")
        self.assertEqual(archive.wrong(), ())
        archive.enter(WHILE)
        self.assertEqual(archive.wrong(), (("b", 9, 2),))

    def test_by_hand_no_call_is_needed(self):
        archive = archive_of(9, A, GONE)
        archive.let_go("a")
        archive.strike(1)
        self.assertEqual(archive.wrong(), ())
        archive.enter(HOLD)
        self.assertEqual(archive.wrong(), (("a", 9, 3),))

    def test_by_hand_on_a_day_on_which_it_is_called(self):
        archive = archive_of(20, A, GONE)
        archive.let_go("a")
        archive.turn(30)
        archive.strike(1)
        self.assertEqual((archive.done(), archive.wrong()), ((("a", 20, None),), ()))

    def test_rows_in_the_order_in_which_they_were_done(self):
        archive = archive_of(9, A, B, ("paper", 0, "c", "k", ()))
        for name in "bac":
            archive.let_go(name)
        archive.strike(2)
        archive.strike(0)
        archive.strike(1)
        self.assertEqual(archive.wrong(), (("b", 9, 5), ("a", 9, 4), ("c", 9, 3)))

    def test_the_act_stays_the_same_whatever_comes_later(self):
        archive = self.closed(A, GONE)
        archive.strike(1)
        archive.turn(77)
        archive.enter(B)
        archive.turn(99)
        self.assertEqual(archive.wrong(), (("a", 15, 2),))


class TestBesideOneAnother(Telling):
    def test_each_by_its_own_acts_alone(self):
        one, other, third = Archive(0), Archive(3), Archive(0)
        blank = self.all_told(third)
        self.assertEqual((one.enter(A), one.enter(GONE)), (0, 1))
        self.assertEqual(other.enter(B), 0)
        one.turn(20)
        self.assertEqual((other.present(), other.done(), other.known(3)), (3, (), (B,)))
        other.turn(9)
        other.let_go("b")
        one.strike(0)
        self.assertEqual((one.present(), one.done(), one.wrong()), (20, (("a", 15, None),), (("a", 15, 2),)))
        self.assertEqual((other.present(), other.done(), other.wrong()), (9, (("b", 9, None),), ()))
        self.assertEqual(other.enter(A), 1)
        self.assertEqual(self.all_told(third), blank)


if __name__ == "__main__":
    unittest.main()
