import unittest

from goneday.days import show_day
from goneday.deedtexts import show_deed
from goneday.desk import Desk
from goneday.errors import GoneMaker, Held, MustStay, NoCall, NoDay, NoLeave, NoNumber, NoPaper, Twice
from tests.samples import DEEDS, NO_PARTS

A = "enter paper 2000-01-06 a k"
B = "enter paper 2000-01-10 b k a"
GONE = "enter rule 2000-01-01 r gone k coming 10 days"
KEEP = "enter rule 2000-01-01 s keep k coming 20 days"
HOLD = "enter hold 2000-01-01 h paper a"
NEEDS = "enter rule 2000-01-01 n leave k"

ASKING = ("there", "there 2000-01-01", "there 2000-03-01", "plan", "clash", "done", "wrong", "paper", "known 2000-01-01")

NO_CALLS = (
    "", " ", "a", "hello", "Plan", "PLAN", "plans", "pla", "enters", "present", "let_go a", "diary a", "2000-01-01",
    " plan", "plan ", "plan  ", "plan plan", "plan 2000-01-01", "plan\n", "\nplan", "clash 2000-01-01", "clash a", "clash ", "done done",
    "done ", "done 2000-01-01", "wrong 0", "wrong ", "paper a", "paper ", "paper 2000-01-01 a k",
    "strike", "strike ", "strike 00", "strike 01", "strike 100", "strike -1", "strike +1", "strike 1 2", "strike 1.", "strike a",
    "strike  1", " strike 1", "strike 1 ", "strike 1\n", "strike 0x1", "strike 1_0", "strike 2000-01-01", "strike True", "strike 000",
    "turn", "turn ", "turn 5", "turn a", "turn 2000-1-01", "turn 2000-01-01 2000-01-02", "turn 1999-12-31", "turn 2273-10-16",
    "turn 2001-02-29", "turn  2000-01-02", "turn 2000-01-02 ", "turn 2000-01-02\n", "turn 02000-01-02",
    "go", "go ", "go A", "go ninesigns", "go a b", "go a1", "go  a", "go a ", "go a\n", "go 2000-01-01", "go 1",
    "there ", "there a", "there 5", "there 2000-01-01 2000-01-01", "there  2000-01-01", "there 2000-01-01 ", "there 2273-10-16",
    "why", "why ", "why a", "why 2000-01-01", "why a 2000-01-01 a", "why 2000-01-01 a", "why A 2000-01-01", "why a 2000-1-1",
    "why a  2000-01-01", "why  a 2000-01-01", "why a 5", "why a 2273-10-16", "why ninesigns 2000-01-01", "why a 2000-01-01 ",
    "known", "known ", "known 0", "known a", "known 2000-01-01 a", "known  2000-01-01", "known 2000-02-30", "known 2273-10-16",
    "enter", "enter ", "enter  ", "enter a", "enter plan", "enter paper", "enter paper 2000-01-01 a", "enter  paper 2000-01-01 a k",
    "enter paper 2000-01-01  a k", "enter paper 2000-01-01 a k ", "enter paper 2000-01-01 A k", "enter paper 2000-13-01 a k",
    "enter paper 2273-10-16 a k", "enter paper 2000-01-01 a k c b", "enter paper 2000-01-01 a k b b", "enter paper 2000-01-01 a k\n",
    "enter enter paper 2000-01-01 a k", " enter paper 2000-01-01 a k", "Enter paper 2000-01-01 a k", "enter\npaper 2000-01-01 a k",
    "enter rule 2000-01-01 r keep k coming 05 days", "enter rule 2000-01-01 r keep k", "enter hold 2000-01-01 h paper a very",
    "enter lift 2000-01-01", "enter leave 2000-01-01 l", "enter end 2000-01-01 r r", "enter happens 2000-01-01 a",
    "enter paper 2000-01-01 a k\nenter paper 2000-01-01 b k",
)

NO_ROWS = tuple(thing for thing in NO_PARTS if not isinstance(thing, str)) + (0, 1, True, False, ("plan",), ["plan"], {"plan": 1}, [])


def desk_of(*rows):
    made = Desk()
    for row in rows:
        made.say(row)
    return made


class Saying(unittest.TestCase):
    def says(self, desk, row, text):
        told = desk.say(row)
        self.assertIs(type(told), str, row)
        self.assertEqual(told, text, row)

    def all_said(self, desk):
        return [desk.say(row) for row in ASKING]

    def refused(self, desk, error, said, **fields):
        """It is refused so, and changes nothing."""
        told = self.all_said(desk)
        with self.assertRaises(error, msg=repr(said)) as caught:
            desk.say(said)
        self.assertIs(type(caught.exception), error, repr(said))
        for field, value in fields.items():
            self.assertEqual(getattr(caught.exception, field), value)
        self.assertEqual(self.all_said(desk), told)


class TestRows(Saying):
    def test_ahead_of_any_deed(self):
        desk = Desk()
        for row, text in (("there", ""), ("there 2000-01-01", ""), ("plan", ""), ("clash", "none"), ("known 2000-01-01", "0"),
                          ("done", ""), ("wrong", ""), ("paper", "holds")):
            self.says(desk, row, text)

    def test_enter_and_strike(self):
        desk = Desk()
        self.says(desk, A, "0")
        self.says(desk, B, "1")
        self.says(desk, "strike 0", "2")
        self.says(desk, A, "3")
        self.says(desk, "strike 1", "4")
        self.says(desk, "known 2000-01-01", "1")

    def test_deeds_of_every_word(self):
        desk = Desk()
        for place, deed in enumerate(DEEDS):
            self.says(desk, "enter " + show_deed(deed), str(place))
        self.says(desk, "known 2000-01-01", str(len(DEEDS)))

    def test_numbers_of_two_figures(self):
        desk = Desk()
        for day in range(12):
            self.says(desk, f"enter happens {show_day(day)} a read", str(day))
        self.says(desk, "strike 10", "12")
        self.says(desk, "strike 11", "13")
        self.says(desk, "strike 9", "14")
        self.refused(desk, NoNumber, "strike 10")
        self.refused(desk, NoNumber, "strike 12")
        self.refused(desk, NoNumber, "strike 99")
        self.says(desk, "strike 0", "15")

    def test_turn(self):
        desk = Desk()
        self.says(desk, "turn 2000-01-02", "ok")
        self.says(desk, "turn 2273-10-15", "ok")

    def test_go(self):
        desk = desk_of(A, B, "turn 2000-01-10")
        self.says(desk, "go b", "ok")
        self.says(desk, "go a", "ok")
        self.says(desk, "done", "b 2000-01-10, a 2000-01-10")
        self.says(desk, "there", "")

    def test_there_by_the_archive_and_by_the_plan(self):
        desk = desk_of(A, B, GONE, "enter paper 2000-01-10 c m")
        for row, text in (
            ("there", ""), ("there 2000-01-05", ""), ("there 2000-01-06", "a"), ("there 2000-01-10", "a, b, c"),
            ("there 2000-01-16", "b, c"), ("there 2000-01-19", "b, c"), ("there 2000-01-20", "c"), ("there 2273-10-15", "c"),
        ):
            self.says(desk, row, text)
        desk.say("turn 2000-01-12")
        self.says(desk, "there", "a, b, c")
        desk.say("go a")
        # By the plan a is still there on this day.
        self.says(desk, "there", "b, c")
        self.says(desk, "there 2000-01-12", "a, b, c")

    def test_plan(self):
        desk = desk_of(B, A)
        self.says(desk, "plan", "a never, b never")
        desk.say(GONE)
        self.says(desk, "plan", "a 2000-01-16, b 2000-01-20")
        desk.say("enter paper 2000-01-01 z m")
        self.says(desk, "plan", "z never, a 2000-01-16, b 2000-01-20")

    def test_plan_behind_the_last_day(self):
        desk = desk_of("enter paper 2273-10-15 a k", "enter rule 2000-01-01 r gone k coming 999 years")
        self.says(desk, "plan", "a 3272-10-15")
        self.says(desk, "there 2273-10-15", "a")

    def test_clash(self):
        desk = desk_of(A, B, GONE)
        self.says(desk, "clash", "none")
        desk.say(KEEP)
        self.says(desk, "clash", "2000-01-16 a s r")
        desk.say("enter rule 2000-01-01 q keep k coming 15 days")
        self.says(desk, "clash", "2000-01-16 a q r")

    def test_known(self):
        desk = desk_of(A, B, "turn 2000-01-05", "strike 0", "turn 2000-01-06", GONE, KEEP)
        for row, text in (("2000-01-01", "2"), ("2000-01-04", "2"), ("2000-01-05", "1"), ("2000-01-06", "3")):
            self.says(desk, "known " + row, text)
        for day in ("2000-01-07", "2273-10-15"):
            self.refused(desk, NoDay, "known " + day)

    def test_done_and_wrong(self):
        desk = desk_of(A, B, GONE, "turn 2000-02-01")
        self.says(desk, "done", "a 2000-01-16, b 2000-01-20")
        self.says(desk, "wrong", "")
        self.says(desk, "strike 1", "3")
        self.says(desk, "wrong", "b 2000-01-20 3")
        self.says(desk, HOLD, "4")
        self.says(desk, "wrong", "a 2000-01-16 4, b 2000-01-20 3")
        self.says(desk, "done", "a 2000-01-16, b 2000-01-20")

    def test_paper(self):
        desk = Desk()
        for row in (A, B, GONE, KEEP, HOLD, NEEDS, "enter leave 2000-02-01 l k", "enter lift 2000-03-01 h", "turn 2000-05-01", "strike 3"):
            desk.say(row)
            self.says(desk, "paper", "holds")

    def test_paper_where_the_checker_does_not_take_it(self):
        import goneday.desk as module
        kept = module.paper_plan
        module.paper_plan = lambda deeds: (("plan", deeds, ()), ())
        try:
            self.says(desk_of(A), "paper", "no")
        finally:
            module.paper_plan = kept


class TestWhy(Saying):
    def test_each_answer(self):
        desk = desk_of(A, GONE, KEEP, "enter hold 2000-01-26 h kind k", "enter lift 2000-02-10 h", "enter rule 2000-02-10 n leave k",
                       "enter leave 2000-02-20 l k")
        for day, text in (
            ("2000-01-01", "not yet"), ("2000-01-05", "not yet"), ("2000-01-06", "none"), ("2000-01-15", "none"),
            ("2000-01-16", "stays s"), ("2000-01-25", "stays s"), ("2000-01-26", "held h"), ("2000-02-09", "held h"),
            ("2000-02-10", "lacks n"), ("2000-02-19", "lacks n"), ("2000-02-20", "gone"), ("2000-02-21", "gone"), ("2273-10-15", "gone"),
        ):
            self.says(desk, "why a " + day, text)

    def test_goes_as_it_comes(self):
        desk = desk_of(A, "enter rule 2000-01-01 r gone k coming 0 days")
        for day, text in (("2000-01-05", "not yet"), ("2000-01-06", "gone"), ("2000-01-07", "gone")):
            self.says(desk, "why a " + day, text)

    def test_never_goes(self):
        desk = desk_of(A)
        for day, text in (("2000-01-05", "not yet"), ("2000-01-06", "none"), ("2273-10-15", "none")):
            self.says(desk, "why a " + day, text)
        desk = desk_of(A, GONE, "enter rule 2000-01-01 s keep k last:read 5 days")
        self.says(desk, "why a 2273-10-15", "stays s")

    def test_by_makers(self):
        desk = desk_of(A, "enter paper 2000-01-10 b m a", "enter rule 2000-01-01 w while m", "enter rule 2000-01-01 q gone m coming 0 days")
        self.says(desk, "why b 2000-01-10", "stays w")

    def test_by_the_plan_and_not_by_the_archive(self):
        desk = desk_of(A, GONE, "turn 2000-01-06", "go a")
        self.says(desk, "why a 2000-01-07", "none")
        self.says(desk, "why a 2000-01-16", "gone")

    def test_none_known(self):
        desk = desk_of(A, B, "enter happens 2000-01-01 ghost read", "strike 1")
        for paper in ("b", "ghost", "nobody", "h", "k"):
            for day in ("2000-01-01", "2000-01-10"):
                self.refused(desk, NoPaper, f"why {paper} {day}")


class TestNoCall(Saying):
    def test_rows(self):
        for desk in (Desk(), desk_of(A, B, GONE, "turn 2000-01-18", "strike 1")):
            for row in NO_CALLS:
                self.refused(desk, NoCall, row, row=row)

    def test_things_of_any_kind(self):
        desk = desk_of(A, B, GONE)
        for thing in NO_ROWS:
            self.refused(desk, NoCall, thing, row=thing)

    def test_the_row_itself(self):
        row = ["plan", {}]
        with self.assertRaises(NoCall) as caught:
            Desk().say(row)
        self.assertIs(caught.exception.row, row)
        self.assertEqual(row, ["plan", {}])

    def test_ahead_of_the_archive_s_refusals(self):
        desk = desk_of(A)
        self.refused(desk, NoCall, "why nobody 2000-13-01", row="why nobody 2000-13-01")
        self.refused(desk, NoCall, "strike 07", row="strike 07")
        self.refused(desk, NoCall, A + " ", row=A + " ")


class TestRefusals(Saying):
    def test_twice(self):
        desk = desk_of(B, A)
        self.refused(desk, Twice, A, number=1)
        self.refused(desk, Twice, "enter paper 2010-01-01 b m", number=0)

    def test_gone_maker(self):
        desk = desk_of(A, GONE)
        self.refused(desk, GoneMaker, "enter paper 2000-01-16 b k a", paper="a")
        desk.say("turn 2000-02-01")
        desk.say("strike 0")
        self.refused(desk, GoneMaker, A, paper="a")

    def test_no_number(self):
        desk = desk_of(A, "strike 0")
        for number in (0, 1, 2, 10, 99):
            self.refused(desk, NoNumber, f"strike {number}")

    def test_no_day(self):
        desk = desk_of("turn 2000-01-05")
        for day in ("2000-01-05", "2000-01-04", "2000-01-01"):
            self.refused(desk, NoDay, "turn " + day)
        for day in ("2000-01-06", "2100-01-01"):
            self.refused(desk, NoDay, "known " + day)

    def test_no_paper(self):
        desk = desk_of(A, B, "turn 2000-01-07")
        for paper in ("b", "nobody", "k"):
            self.refused(desk, NoPaper, "go " + paper)
        desk.say("go a")
        self.refused(desk, NoPaper, "go a")

    def test_must_stay_held_no_leave(self):
        desk = desk_of(A, KEEP, HOLD, NEEDS, "turn 2000-01-07")
        self.refused(desk, MustStay, "go a", rule="s")
        desk.say("strike 1")
        self.refused(desk, Held, "go a", hold="h")
        desk.say("strike 2")
        self.refused(desk, NoLeave, "go a")
        desk.say("enter leave 2000-01-01 l k")
        self.says(desk, "go a", "ok")


class TestBesideOneAnother(Saying):
    def test_each_by_its_own_rows_alone(self):
        one, other = Desk(), Desk()
        self.says(one, A, "0")
        self.says(other, B, "0")
        one.say("turn 2000-01-10")
        self.says(one, "there", "a")
        self.says(other, "there", "")
        self.says(other, "plan", "b never")
        self.says(other, "known 2000-01-01", "1")


if __name__ == "__main__":
    unittest.main()
