import ast
import itertools
import pathlib
import unittest

from goneday.checker import holds
from goneday.deeds import go_together, is_deed
from tests.samples import NO_PARTS, gone, in_all_orders, keep, replaced, reshaped

PACKAGE = pathlib.Path(__file__).resolve().parent.parent / "goneday"
LATE_STAGES = (
    "turning", "goings", "plans", "clashes", "spans", "moves", "counts", "acts", "archive", "papers", "deedtexts", "desk",
)

DEEDS = (
    ("paper", 0, "a", "k", ()),
    ("paper", 1, "b", "k", ("a",)),
    ("paper", 1, "c", "m", ("a", "b", "z")),
    gone("r", 1),
    keep("s", 2, day=1),
    keep("t", 1, "m", since=("first", "read")),
    ("rule", 0, "n", ("leave", "k")),
    ("leave", 1, "l", "k"),
    ("leave", 4, "o", "k"),
    ("hold", 0, "h", ("paper", "a"), True),
    ("hold", 0, "i", ("kind", "m"), False),
    ("lift", 2, "h"),
    ("rule", 0, "f", ("follow", "m")),
)
ROWS = (("a", 2, "l"), ("b", 4, "o"), ("c", None, None))
GROUNDS = (
    (((0, 0, ("held", "h")), (1, 1, ("stays", "s", 2))), ("r", 1)),
    (((1, 1, ("none",)), (2, 2, ("stays", "s", 3)), (3, 3, ("lacks", "n"))), ("r", 2)),
    (((1, 1, ("none",)), (2, None, ("stays", "t", None))), None),
)
PLAN = (("plan", DEEDS, ROWS), GROUNDS)
CLASH = (("clash", DEEDS, ROWS, 1, "a", ("s", 2), ("r", 1)), GROUNDS)
MADE = (("made", DEEDS, "c", "a"), ("c", "b", "a"))
STAYS = (("stays", DEEDS, 1, "a", "s", 2), None)
NEVER = (("stays", DEEDS, 1, "c", "t", None), None)
DUE = (("due", DEEDS, 1, "a", "r", 1), None)
DEEP = (("covered", DEEDS, 1, "c", "h"), ("c", "b", "a"))
KIND = (("covered", DEEDS, 1, "c", "i"), ("c",))
RIGHT = (PLAN, CLASH, MADE, STAYS, NEVER, DUE, DEEP, KIND)


def parts_of(thing, change):
    """Each thing that comes of a tuple where one part, at any depth, is changed; None is told where it isn't."""
    for place, old in enumerate(thing):
        if change(old) is not None:
            yield thing[:place] + (change(old)[0],) + thing[place + 1:]
        if isinstance(old, tuple):
            for other in parts_of(old, change):
                yield thing[:place] + (other,) + thing[place + 1:]


def as_truth(part):
    """True for 1 and False for 0, and the other way round."""
    if isinstance(part, bool):
        return (int(part),)
    return (part == 1,) if part in (0, 1) and isinstance(part, int) else None


def as_text(part):
    return (str(part),) if isinstance(part, int) else None


def as_list(part):
    return (list(part),) if isinstance(part, tuple) else None


def as_none(part):
    return None if part is None else (None,)


class Claims(unittest.TestCase):
    def taken(self, claim, grounds):
        self.assertIs(holds(claim, grounds), True, (claim, grounds))

    def not_taken(self, claim, grounds):
        self.assertIs(holds(claim, grounds), False, (claim, grounds))


class TestForms(Claims):
    def test_right_ones(self):
        for claim, grounds in RIGHT:
            self.taken(claim, grounds)
            for deeds in in_all_orders(DEEDS):
                self.taken((claim[0], deeds) + claim[2:], grounds)

    def test_one_part_put_otherwise(self):
        for change in (as_truth, as_text, as_list, as_none):
            for claim, grounds in RIGHT:
                # A pair, so that the claim and the grounds themselves are changed, too.
                for one, other in parts_of((claim, grounds), change):
                    self.not_taken(one, other)

    def test_a_part_more_or_fewer(self):
        for claim, grounds in RIGHT:
            for other in reshaped(claim):
                if not (isinstance(other, tuple) and len(other) > 1 and self.are_deeds(other[1])):
                    self.not_taken(other, grounds)
                elif other[1] == claim[1]:
                    self.not_taken(other, grounds)
            for other in reshaped(grounds if grounds is not None else ()):
                self.not_taken(claim, other)

    def are_deeds(self, thing):
        return type(thing) is tuple and all(is_deed(deed) for deed in thing) and go_together(thing)

    def test_things_of_any_kind_in_each_place(self):
        for claim, grounds in RIGHT:
            # None stays right where it was told, and a far day where nothing changes any more.
            for part in [part for part in NO_PARTS if part not in (None, 1000000)]:
                for one, other in replaced((claim, grounds), part):
                    self.not_taken(one, other)

    def test_things_of_any_kind(self):
        deep = ("a", [{"a": ((((((([["a"]], None),),),),),),)}])
        things = NO_PARTS + (True, False, 0, 1, "plan", "made", (), ("plan",), ("plan", ()), ("plan", (), (), ()), deep)
        for claim, grounds in itertools.product(things, things + tuple(pair[1] for pair in RIGHT)):
            self.not_taken(claim, grounds)
        for claim, grounds in RIGHT:
            for thing in things:
                if thing is not None or grounds is not None:
                    self.not_taken(claim, thing)

    def test_grounds_of_another_claim(self):
        for one, other in itertools.product(RIGHT, RIGHT):
            if one[1] != other[1]:
                self.not_taken(one[0], other[1])

    def test_no_other_words(self):
        for claim, grounds in RIGHT:
            for word in ("gone", "Plan", "plan ", "", "goes", "holds", "clashes", "cover", b"plan", None, ["plan"], ("plan",)):
                self.not_taken((word,) + claim[1:], grounds)
        self.not_taken(("due",) + STAYS[0][1:], None)
        self.not_taken(("stays",) + DUE[0][1:], None)

    def test_deeds(self):
        for claim, grounds in RIGHT:
            for deeds in (
                list(DEEDS), DEEDS + (None,), DEEDS + ("a",), DEEDS + ((),), DEEDS + (list(DEEDS[0]),), DEEDS + DEEDS[:1],
                DEEDS + (("end", 0, "r"),), DEEDS + (("paper", 9, "a", "m", ()),), DEEDS + (("leave", 9, "l", "m"),),
                DEEDS + (("lift", 0, "h"),), DEEDS + (("paper", 100000, "y", "m", ()),), None, {}, "a", 0,
            ):
                self.not_taken((claim[0], deeds) + claim[2:], grounds)

    def test_days(self):
        for claim, grounds in (STAYS, NEVER, DUE, DEEP, KIND):
            for day in (-1, True, None, "1", [], (), {}, (1,)):
                self.not_taken(claim[:2] + (day,) + claim[3:], grounds)
        for day in (-1, True, None, "1", [], (), {}, (1,)):
            self.not_taken(CLASH[0][:3] + (day,) + CLASH[0][4:], GROUNDS)

    def test_nothing_is_changed(self):
        for claim, grounds in RIGHT:
            kept = (repr(claim), repr(grounds))
            holds(claim, grounds)
            self.assertEqual((repr(claim), repr(grounds)), kept)
        claim, grounds = ["plan", list(DEEDS), [ROWS]], {"a": [GROUNDS]}
        kept = (repr(claim), repr(grounds))
        holds(claim, grounds)
        self.assertEqual((repr(claim), repr(grounds)), kept)

    def test_no_deeds(self):
        self.taken(("plan", (), ()), ())
        for rows, grounds in (((), None), ((), []), ([], ()), (ROWS, GROUNDS), ((), (((), None),)), (None, ())):
            self.not_taken(("plan", (), rows), grounds)
        self.not_taken(("made", (), "a", "b"), ("a", "b"))
        self.not_taken(("stays", (), 0, "a", "r", None), None)
        self.not_taken(("due", (), 0, "a", "r", 0), None)
        self.not_taken(("covered", (), 0, "a", "h"), ("a",))
        self.not_taken(("clash", (), (), 0, "a", ("r", 0), ("s", 0)), ())

    def test_it_imports_nothing_of_later_stages(self):
        drawn, found = ["checker"], []
        while drawn:
            module = drawn.pop()
            found.append(module)
            tree = ast.parse((PACKAGE / (module + ".py")).read_text())
            rows = [node.module.split(".")[1] for node in tree.body if isinstance(node, ast.ImportFrom)]
            drawn.extend(row for row in rows if row not in found)
        self.assertEqual([module for module in found if module in LATE_STAGES], [])


class TestMade(Claims):
    deeds = (
        ("paper", 5, "a", "k", ("d", "z")), ("paper", 4, "b", "k", ()), ("paper", 6, "c", "m", ("a", "b")),
        ("paper", 7, "d", "m", ("a", "b", "c", "ghost")), ("paper", 7, "e", "m", ("d", "f")), ("paper", 7, "f", "m", ("e",)),
    )

    def test_each_way(self):
        for way in ("da", "dca", "dcb", "db", "edca", "eda", "edb", "fedca", "fe"):
            self.taken(("made", self.deeds, way[0], way[-1]), tuple(way))

    def test_no_way(self):
        for way in ("ad", "aa", "ab", "ea", "eca", "eba", "dba", "daa", "dd", "ddca", "ef", "az", "za", "d", "a"):
            self.not_taken(("made", self.deeds, way[0], way[-1]), tuple(way))
        self.not_taken(("made", self.deeds, "d", "ghost"), ("d", "ghost"))
        self.not_taken(("made", self.deeds, "ghost", "d"), ("ghost", "d"))

    def test_ends(self):
        for paper, other in (("c", "a"), ("d", "b"), ("d", "c"), ("e", "a"), ("a", "d"), ("d", "d"), ("d", None), (None, "a")):
            self.not_taken(("made", self.deeds, paper, other), ("d", "c", "a"))

    def test_one_step_broken(self):
        for way in (("e", "d", "a", "c"), ("e", "d", "b", "a"), ("e", "d", "ghost", "a"), ("e", "d", "d", "a"),
                    ("e", "d", None, "a"), ("e", "d", ["c"], "a"), ("e", "d", ("c", "a")), ("e", "d", "", "a"), ("e", "a"),
                    ["e", "d", "a"], "eda", {"e": "d", "d": "a"}):
            self.not_taken(("made", self.deeds, "e", "a"), way)


class TestCalls(Claims):
    deeds = (
        ("paper", 5, "a", "k", ()), ("paper", 6, "b", "k", ("a",)), ("paper", 6, "c", "m", ()), keep("q", 20),
        keep("p", 0, since=("last", "read")), gone("r", 10), gone("t", 3, since=("last", "read")), ("happens", 9, "a", "read"),
        ("happens", 14, "a", "read"), ("rule", 0, "w", ("while", "k")), ("rule", 0, "f", ("follow", "k")), ("end", 22, "q"),
        ("end", 90, "r"),
    )

    def days(self, word, paper, rule, by, days, last=120):
        for day in range(last):
            claim = (word, self.deeds, day, paper, rule, by)
            self.assertIs(holds(claim, None), day in days, claim)
            self.not_taken(claim, ())

    def test_stays(self):
        self.days("stays", "a", "q", 25, range(5, 22))
        self.days("stays", "b", "q", 26, range(6, 22))
        self.days("stays", "a", "p", None, range(5, 9))
        self.days("stays", "b", "p", None, range(6, 120))
        for by in (24, 26, None, "a", True):
            self.days("stays", "a", "q", by, ())
        self.days("stays", "c", "q", 26, ())
        self.days("stays", "a", "p", 9, ())

    def test_due(self):
        self.days("due", "a", "r", 15, range(15, 90))
        self.days("due", "a", "t", 12, range(12, 14))
        self.days("due", "a", "t", 17, range(17, 120))
        for by in (14, 16, None, "a", True):
            self.days("due", "a", "r", by, ())
        self.days("due", "b", "t", None, ())
        self.days("due", "c", "r", 16, ())

    def test_rules_of_other_words_alone_call_by_makers(self):
        self.days("stays", "b", "w", "a", ())
        self.days("due", "b", "f", "a", ())
        self.days("stays", "a", "r", 15, ())
        self.days("due", "a", "q", 25, ())

    def test_far_days(self):
        self.taken(("due", self.deeds, 10 ** 30, "a", "t", 17), None)
        self.taken(("stays", self.deeds, 10 ** 30, "b", "p", None), None)

    def test_no_such_paper_or_rule(self):
        for thing in ("ghost", "", None, 0, [], {}, ("a",), True):
            self.not_taken(("stays", self.deeds, 10, thing, "q", 25), None)
            self.not_taken(("stays", self.deeds, 10, "a", thing, 25), None)
            self.not_taken(("due", self.deeds, 20, thing, "r", 15), None)
            self.not_taken(("due", self.deeds, 20, "a", thing, 15), None)


class TestCovered(Claims):
    deeds = (
        ("paper", 5, "a", "k", ()), ("paper", 6, "b", "m", ("a",)), ("paper", 7, "c", "m", ("a", "b")),
        ("hold", 3, "h", ("paper", "a"), True), ("lift", 9, "h"), ("hold", 3, "i", ("paper", "b"), False),
        ("hold", 3, "j", ("kind", "k"), True), ("hold", 3, "l", ("kind", "m"), False), ("hold", 3, "z", ("paper", "ghost"), True),
    )

    def test_on_which_days(self):
        for day in range(20):
            # Also ahead of its coming.
            self.assertIs(holds(("covered", self.deeds, day, "c", "h"), ("c", "b", "a")), 3 <= day < 9)
            self.assertIs(holds(("covered", self.deeds, day, "b", "i"), ("b",)), 3 <= day)
        self.taken(("covered", self.deeds, 10 ** 30, "c", "l"), ("c",))

    def test_each_way(self):
        for paper, hold, ways in (
            ("c", "h", ("ca", "cba")), ("b", "h", ("ba",)), ("a", "h", ("a",)), ("b", "i", ("b",)), ("a", "j", ("a",)),
            ("b", "j", ("ba",)), ("c", "j", ("ca", "cba")), ("b", "l", ("b",)), ("c", "l", ("c",)), ("c", "i", ()), ("a", "i", ()),
            ("a", "l", ()), ("a", "z", ()), ("c", "ghost", ()), ("ghost", "z", ()),
        ):
            for way in ("a", "b", "c", "ba", "ca", "cb", "cba", "ab", "ac", "cc", "cab", "bb", "", ("ghost",), ("c", "ghost")):
                claim = ("covered", self.deeds, 5, paper, hold)
                self.assertIs(holds(claim, tuple(way)), "".join(way) in ways, (claim, way))
            self.not_taken(("covered", self.deeds, 5, paper, hold), None)

    def test_more_than_one_only_where_it_is_deep(self):
        self.not_taken(("covered", self.deeds, 5, "c", "l"), ("c", "b"))
        deeds = self.deeds + (("hold", 4, "l", ("kind", "m"), True),)
        self.taken(("covered", deeds, 5, "c", "l"), ("c", "b"))
        self.not_taken(("covered", deeds, 3, "c", "l"), ("c", "b"))

    def test_no_hold(self):
        for thing in (None, 0, True, "", [], {}, ("h",), ["h"]):
            self.not_taken(("covered", self.deeds, 5, "c", thing), ("c", "a"))


class TestPlan(Claims):
    def plan(self, deeds, truth, rows, *grounds):
        for others in in_all_orders(deeds):
            self.assertIs(holds(("plan", others, rows), grounds), truth, (others, rows, grounds))

    paper = ("paper", 5, "a", "k", ())

    def test_a_paper_that_never_goes(self):
        row = ("a", None, None)
        self.plan((self.paper,), True, (row,), (((5, None, ("none",)),), None))
        self.plan((self.paper,), True, (row,), (((5, 5, ("none",)), (6, 90, ("none",)), (91, None, ("none",))), None))
        for stretches in (
            (), ((5, 99, ("none",)),), ((4, None, ("none",)),), ((6, None, ("none",)),), ((5, 4, ("none",)),),
            ((5, 9, ("none",)), (11, None, ("none",))), ((5, 9, ("none",)), (9, None, ("none",))),
            ((5, None, ("none",)), (6, None, ("none",))), ((5, None, ("none",)), (5, None, ("none",))),
            ((5, 9, ("none",)), (10, 9, ("none",)), (10, None, ("none",))), ((5, 9, ("none",)), (10, 8, ("none",)), (9, None, ("none",))),
            ((5, None, ("none",)), (None, None, ("none",))), ((5, None, ("none",), ("none",)),), ((5, None),), (("none",),), None,
        ):
            self.plan((self.paper,), False, (row,), (stretches, None))
        for why in (("none", "a"), ("none", None), (), "none", ["none"], None, ("held", "h"), ("lacks", "n"), ("stays", "r", 5), ("gone",)):
            self.plan((self.paper,), False, (row,), (((5, None, why),), None))

    def test_rows(self):
        grounds = (((5, None, ("none",)),), None)
        for row in (("a", None, "l"), ("b", None, None), ("a", 9, None), ("a", None), ("a", None, None, None), ["a", None, None],
                    ("a", -1, None), None, (), ("a", None, False), ("a", False, None)):
            self.plan((self.paper,), False, (row,), grounds)
        for rows in ((), [("a", None, None)], (("a", None, None),) * 2, None, "a", {}):
            self.plan((self.paper,), False, rows, grounds)
        self.plan((self.paper,), False, (("a", None, None),))
        self.plan((self.paper,), False, (("a", None, None),), grounds, grounds)
        self.plan((self.paper,), False, (("a", None, None),), list(grounds))
        self.plan((self.paper,), False, (("a", None, None),), grounds + (None,))

    def test_in_order(self):
        deeds = (self.paper, ("paper", 4, "b", "k", ()))
        rows = (("b", None, None), ("a", None, None))
        grounds = ((((4, None, ("none",)),), None), (((5, None, ("none",)),), None))
        self.plan(deeds, True, rows, *grounds)
        self.plan(deeds, False, rows[::-1], *grounds[::-1])
        self.plan(deeds, False, rows, *grounds[::-1])
        self.plan(deeds, False, rows[:1], *grounds[:1])

    def test_a_paper_that_goes_as_it_comes(self):
        deeds = (self.paper, gone("r", 0))
        self.plan(deeds, True, (("a", 5, None),), ((), ("r", 5)))
        for row, stretches, why in (
            (("a", 4, None), (), ("r", 5)), (("a", 6, None), ((5, 5, ("none",)),), ("r", 5)), (("a", 5, None), (), None),
            (("a", 5, None), (), ("r", 4)), (("a", 5, None), (), ("s", 5)), (("a", 5, None), (), ("r", None)),
            (("a", 5, None), ((5, 5, ("none",)),), ("r", 5)), (("a", 5, None), ((5, 4, ("none",)),), ("r", 5)),
            (("a", 5, None), ((5, None, ("none",)),), ("r", 5)), (("a", None, None), ((5, None, ("none",)),), None),
            (("a", None, None), (), None), (("a", None, None), (), ("r", 5)), (("a", 5, "l"), (), ("r", 5)),
        ):
            self.plan(deeds, False, (row,), (stretches, why))

    def test_a_day_of_going_too_early_or_too_late(self):
        deeds = (self.paper, gone("r", 10))
        for day in (13, 14, 15, 16, 17):
            grounds = (((5, day - 1, ("none",)),), ("r", 15))
            self.plan(deeds, day == 15, (("a", day, None),), grounds)

    def test_each_end_of_a_reason(self):
        deeds = (
            self.paper, gone("r", 10), keep("s", 20), ("hold", 25, "h", ("kind", "k"), False), ("lift", 40, "h"),
            ("rule", 40, "n", ("leave", "k")), ("leave", 50, "l", "k"), ("leave", 60, "o", "k"),
        )
        row = ("a", 50, "l")
        whys = (("none",), ("stays", "s", 25), ("held", "h"), ("lacks", "n"))
        ends = ((12, 13, 14, 15), (23, 24, 25), (38, 39, 40), (48, 49, 50))
        for one, two, three, four in itertools.product(*ends):
            last = (50, 50, ("none",)) if four == 48 else ()
            stretches = ((5, one, whys[0]), (one + 1, two, whys[1]), (two + 1, three, whys[2]), (three + 1, four, whys[3]))
            # The keep rule calls from the coming on, so the first border may lie earlier.
            truth = one <= 14 and (two, three, four) == (24, 39, 49)
            self.plan(deeds, truth, (row,), (stretches + (last,) * (last != ()), ("r", 15)))

    def test_a_reason_that_is_not_so_on_one_day_between(self):
        deeds = (self.paper, gone("r", 0), ("hold", 0, "h", ("kind", "k"), False), ("lift", 20, "h"),
                 ("hold", 21, "h", ("kind", "k"), False), keep("s", 90, day=20), ("end", 21, "s"))
        row = ("a", None, None)
        self.plan(deeds, True, (row,), (((5, 19, ("held", "h")), (20, 20, ("stays", "s", 95)), (21, None, ("held", "h"))), None))
        self.plan(deeds, False, (row,), (((5, None, ("held", "h")),), None))
        self.plan(deeds, False, (row,), (((5, 19, ("held", "h")), (20, None, ("held", "h"))), None))
        self.plan(deeds, False, (row,), (((5, 20, ("held", "h")), (21, None, ("held", "h"))), None))

    def test_a_call_between_that_no_deed_s_day_tells(self):
        # From day 30 to day 39 the last rule calls it, and the hold bars it then.
        deeds = (self.paper, gone("r", 10, since=("last", "read")), ("happens", 20, "a", "read"), ("happens", 40, "a", "read"),
                 ("hold", 0, "h", ("paper", "a"), False), ("end", 45, "r"))
        row = ("a", None, None)
        self.plan(deeds, True, (row,), (((5, 29, ("none",)), (30, 39, ("held", "h")), (40, None, ("none",))), None))
        for stretches in (((5, None, ("none",)),), ((5, 30, ("none",)), (31, 39, ("held", "h")), (40, None, ("none",))),
                          ((5, 29, ("none",)), (30, 38, ("held", "h")), (39, None, ("none",)))):
            self.plan(deeds, False, (row,), (stretches, None))

    def test_any_reason_is_taken(self):
        deeds = (self.paper, keep("s", 10), keep("t", 20, since=("first", "read")), ("hold", 0, "h", ("kind", "k"), True),
                 ("rule", 0, "n", ("leave", "k")), ("rule", 0, "o", ("leave", "k")))
        row = ("a", None, None)
        reasons = (("none",), ("stays", "t", None), ("held", "h"), ("lacks", "n"), ("lacks", "o"))
        for one, other in itertools.product(reasons, reasons):
            self.plan(deeds, True, (row,), (((5, 14, one), (15, None, other)), None))
            self.plan(deeds, True, (row,), (((5, 8, one), (9, 14, ("stays", "s", 15)), (15, 70, other), (71, None, one)), None))
        for why in (("stays", "s", 15), ("stays", "t", 25), ("stays", "n", None), ("held", "s"), ("lacks", "s"), ("lacks", "h")):
            self.plan(deeds, False, (row,), (((5, 14, ("none",)), (15, None, why)), None))

    def test_rules_that_call_by_makers(self):
        deeds = (self.paper, ("paper", 6, "b", "m", ("a",)), gone("r", 10), ("rule", 0, "w", ("while", "m")), ("rule", 0, "f", ("follow", "m")))
        rows = (("a", 15, None), ("b", 15, None))
        first = (((5, 14, ("none",)),), ("r", 15))
        for why in (("none",), ("stays", "w", "a")):
            self.plan(deeds, True, rows, first, (((6, 14, why),), ("f", "a")))
        for why in (("stays", "w", None), ("stays", "w", "b"), ("stays", "w", 15), ("stays", "f", "a")):
            self.plan(deeds, False, rows, first, (((6, 14, why),), ("f", "a")))
        for call in (("w", "a"), ("f", "b"), ("f", None), ("f", 15), ("r", 15), None):
            self.plan(deeds, False, rows, first, (((6, 14, ("none",)),), call))
        self.plan(deeds, False, (("a", 15, None), ("b", 16, None)), first, (((6, 15, ("none",)),), ("f", "a")))
        self.plan(deeds, False, (("a", 15, None), ("b", None, None)), first, (((6, None, ("none",)),), None))

    def test_going_while_something_bars_it(self):
        for bar in (keep("s", 99), ("hold", 0, "h", ("kind", "k"), False), ("rule", 0, "n", ("leave", "k"))):
            self.plan((self.paper, gone("r", 10), bar), False, (("a", 15, None),), (((5, 14, ("none",)),), ("r", 15)))
            self.plan((self.paper, gone("r", 10), bar), False, (("a", 15, "l"),), (((5, 14, ("none",)),), ("r", 15)))


class TestLeaves(Claims):
    papers = (("paper", 5, "a", "k", ()), ("paper", 5, "b", "k", ()), gone("r", 10), ("rule", 0, "n", ("leave", "k")))
    leaves = (("leave", 8, "y", "k"), ("leave", 8, "x", "k"), ("leave", 7, "z", "k"), ("leave", 15, "w", "k"), ("leave", 0, "v", "m"))
    grounds = ((((5, 14, ("none",)),), ("r", 15)),) * 2

    def test_the_least_day_then_the_least_name(self):
        for one, other in itertools.product((None, "v", "w", "x", "y", "z", "ghost"), repeat=2):
            rows = (("a", 15, one), ("b", 15, other))
            claim = ("plan", self.papers + self.leaves, rows)
            self.assertIs(holds(claim, self.grounds), (one, other) == ("z", "x"), claim)

    def test_used_twice(self):
        deeds = self.papers + self.leaves[:1]
        self.not_taken(("plan", deeds, (("a", 15, "y"), ("b", 15, "y"))), self.grounds)
        lacks = (((5, 14, ("none",)), (15, None, ("lacks", "n"))), None)
        self.taken(("plan", deeds, (("a", 15, "y"), ("b", None, None))), (self.grounds[0], lacks))
        self.not_taken(("plan", deeds, (("a", None, None), ("b", 15, "y"))), (lacks, self.grounds[0]))

    def test_not_due_yet(self):
        deeds = self.papers[:1] + self.papers[2:] + (("leave", 20, "l", "k"),)
        for day in (15, 19, 20, 21):
            stretches = ((5, 14, ("none",)), (15, day - 1, ("lacks", "n"))) if day > 15 else ((5, 14, ("none",)),)
            self.assertIs(holds(("plan", deeds, (("a", day, "l"),)), ((stretches, ("r", 15)),)), day == 20)

    def test_not_needed(self):
        deeds = self.papers[:1] + self.papers[2:3] + self.leaves
        self.taken(("plan", deeds, (("a", 15, None),)), self.grounds[:1])
        for leave in ("v", "x", "z"):
            self.not_taken(("plan", deeds, (("a", 15, leave),)), self.grounds[:1])

    def test_one_that_a_paper_behind_uses_up_is_lacked_from_the_next_day_on(self):
        # On day 20 b uses up the one leave, behind the turn of a, which nothing calls to go ahead of day 30.
        deeds = (("paper", 5, "a", "k", ()), ("paper", 6, "b", "k", ()), ("rule", 0, "n", ("leave", "k")), ("leave", 0, "l", "k"),
                 gone("r", 5, since=("last", "read")), ("happens", 15, "b", "read"), ("happens", 25, "a", "read"))
        rows = (("a", None, None), ("b", 20, "l"))
        behind = (((6, 19, ("none",)),), ("r", 20))
        for day in (18, 19, 20, 21, 22, 29, 30):
            stretches = ((5, day - 1, ("none",)), (day, None, ("lacks", "n")))
            self.assertIs(holds(("plan", deeds, rows), ((stretches, None), behind)), 21 <= day <= 30, day)

    def test_one_that_a_paper_ahead_uses_up_is_lacked_on_the_day(self):
        deeds = (("paper", 5, "b", "k", ()), ("paper", 6, "a", "k", ()), ("rule", 0, "n", ("leave", "k")), ("leave", 0, "l", "k"),
                 gone("r", 5, since=("last", "read")), ("happens", 15, "b", "read"), ("happens", 25, "a", "read"))
        rows = (("b", 20, "l"), ("a", None, None))
        ahead = (((5, 19, ("none",)),), ("r", 20))
        for day in (18, 19, 20, 21, 30):
            stretches = ((6, day - 1, ("none",)), (day, None, ("lacks", "n")))
            self.assertIs(holds(("plan", deeds, rows), (ahead, (stretches, None))), 20 <= day <= 30, day)


class TestClash(Claims):
    deeds = (("paper", 5, "a", "k", ()), ("paper", 9, "b", "k", ("a",)), gone("r", 3), keep("s", 10), keep("t", 10), gone("q", 4),
             ("rule", 0, "w", ("while", "k")))
    rows = (("a", 15, None), ("b", 19, None))
    grounds = ((((5, 14, ("stays", "s", 15)),), ("q", 9)), (((9, 18, ("stays", "t", 19)),), ("r", 12)))

    def clash(self, day, paper, one, other):
        return holds(("clash", self.deeds, self.rows, day, paper, one, other), self.grounds)

    def test_on_which_days(self):
        self.taken(("plan", self.deeds, self.rows), self.grounds)
        for day in range(30):
            # Ahead of its coming nothing calls it, on the day of going none calls it to stay, and behind it has no turn.
            for one in (("s", 15), ("t", 15)):
                self.assertIs(self.clash(day, "a", one, ("r", 8)), 8 <= day < 15, day)
                self.assertIs(self.clash(day, "a", one, ("q", 9)), 9 <= day < 15, day)
            self.assertIs(self.clash(day, "b", ("w", "a"), ("r", 12)), 12 <= day < 15, day)
            self.assertIs(self.clash(day, "b", ("s", 19), ("r", 12)), 12 <= day < 19, day)

    def test_behind_the_going_it_has_no_turn(self):
        deeds = (("paper", 5, "a", "k", ()), gone("r", 3), keep("s", 90, day=20))
        rows, grounds = (("a", 8, None),), ((((5, 7, ("none",)),), ("r", 8)),)
        self.taken(("plan", deeds, rows), grounds)
        for day in (4, 5, 7, 8, 9, 19, 20, 21, 94):
            self.not_taken(("clash", deeds, rows, day, "a", ("s", 95), ("r", 8)), grounds)

    def test_calls(self):
        for one, other in (
            (("s", 14), ("r", 8)), (("s", 15), ("r", 9)), (("r", 8), ("s", 15)), (("s", 15), ("t", 15)), (("r", 8), ("r", 8)),
            (("w", "a"), ("r", 8)), (("s", None), ("r", 8)), (("s", 15), ("r", None)), (("s", 15), None), (None, ("r", 8)),
            (["s", 15], ("r", 8)), (("s", 15), ["r", 8]), (("s", 15, 15), ("r", 8)), (("s",), ("r", 8)), ("s", "r"),
        ):
            self.assertIs(self.clash(10, "a", one, other), False, (one, other))

    def test_papers(self):
        for paper in ("b", "ghost", None, 0, [], {}, ("a",)):
            self.assertIs(self.clash(10, paper, ("s", 15), ("r", 8)), False)

    def test_rows_that_are_not_the_plan_s(self):
        claim = ("clash", self.deeds, self.rows, 10, "a", ("s", 15), ("r", 8))
        self.taken(claim, self.grounds)
        self.not_taken(claim, None)
        self.not_taken(claim, self.grounds[:1])
        self.not_taken(claim, self.grounds[::-1])
        for rows in ((("a", 16, None), ("b", 19, None)), (("a", 15, None), ("b", None, None)), self.rows[:1], list(self.rows)):
            self.not_taken(claim[:2] + (rows,) + claim[3:], self.grounds)


if __name__ == "__main__":
    unittest.main()
