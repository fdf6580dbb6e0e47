"""Right claims with their grounds, and a plain reading of what the checker is to take, day by day."""

from goneday.calls import goes
from goneday.plans import plan
from goneday.spans import diary
from tests.plain import Plain


def grounds_of(deeds):
    """The grounds of the plan's claim, as the house tells diaries."""
    days = {name: day for name, day, leave in plan(deeds)}
    told = []
    for name, day in days.items():
        gone = {other: went for other, went in days.items() if went is not None}
        told.append((diary(deeds, name), None if day is None else goes(deeds, day, name, gone)[0]))
    return tuple(told)


def whole(thing):
    return type(thing) is int


def right_form(thing, *kinds):
    """Whether a thing is a tuple of parts of just these kinds; a kind may be a tuple of kinds."""
    if type(thing) is not tuple or len(thing) != len(kinds):
        return False
    allowed = [kind if isinstance(kind, tuple) else (kind,) for kind in kinds]
    return all(type(part) in each for part, each in zip(thing, allowed))


NONE = type(None)


class PlainChecker:
    """What is so of the plan of some deeds that reckon no further than the last day of this walk."""

    def __init__(self, deeds, last):
        self.plain = Plain(deeds)
        self.last = last
        self.walk = self.plain.walk(range(last + 1))

    def plan_holds(self, rows, grounds):
        if type(rows) is not tuple or not all(right_form(row, str, (int, NONE), (str, NONE)) for row in rows):
            return False
        if rows != self.walk.rows() or type(grounds) is not tuple or len(grounds) != len(rows):
            return False
        return all(right_form(pair, tuple, (tuple, NONE)) for pair in grounds) and all(
            self.diary_holds(row[0], row[1], pair[0]) and self.call_holds(row[0], row[1], pair[1])
            for row, pair in zip(rows, grounds)
        )

    def diary_holds(self, paper, going, stretches):
        if not all(right_form(stretch, int, (int, NONE), tuple) for stretch in stretches):
            return False
        end = self.last + 1 if going is None else going
        days = []
        for place, (first, last, why) in enumerate(stretches):
            if last is None and (going is not None or place + 1 < len(stretches)):
                return False
            if last is not None and last < first:
                return False
            days.extend((day, why) for day in range(first, max(end, first + 1) if last is None else last + 1))
        if going is None and (not stretches or stretches[-1][1] is not None):
            return False
        if [day for day, why in days] != list(range(self.plain.comings[paper][1], end)):
            return False
        return all(self.why_holds(day, paper, why) for day, why in days)

    def why_holds(self, day, paper, why):
        forms = (("none", (str,)), ("stays", (str, str, (int, str, NONE))), ("held", (str, str)), ("lacks", (str, str)))
        return any(why[:1] == (word,) and right_form(why, *form) for word, form in forms) and (
            self.walk.is_why(day, paper, why)
        )

    def call_holds(self, paper, going, why):
        if going is None:
            return why is None
        return right_form(why, str, (int, str)) and why in self.walk.looks[going, paper][1]

    def reasons(self, day, paper):
        """All reasons for which a paper stays on a day."""
        staying, going, held, lacking = self.walk.looks[day, paper]
        told = [("stays",) + call for call in staying] + [("held", hold) for hold in held]
        return told + [("lacks", rule) for rule in lacking] + [("none",)] * (not going)

    def clash_holds(self, rows, day, paper, one, other, grounds):
        if not self.plan_holds(rows, grounds) or not whole(day) or (day, paper) not in self.walk.looks:
            return False
        staying, going, held, lacking = self.walk.looks[day, paper]
        forms = right_form(one, str, (int, str, NONE)) and right_form(other, str, (int, str))
        return forms and one in staying and other in going
