"""What plans, clashes and spans have in common: papers are looked at in turn, day by day, and go."""

from goneday.calls import going, leave_rules, staying
from goneday.standing import holding, holds_on, rules_on
from goneday.turning import turning_days
from goneday.webs import Paper, line_of, papers, place_of


class Look:
    """What a paper meets at its turn on a day: the calls, what bars it (as a diary tells it), and a leave to use up."""

    def __init__(self, day, paper, to_stay, to_go, bars, leave):
        self.day = day
        self.paper = paper
        self.to_stay = to_stay
        self.to_go = to_go
        self.bars = bars
        self.leave = leave

    def lets_go(self):
        """Tell whether the paper goes."""
        return len(self.to_go) > 0 and len(self.bars) == 0

    def as_row(self):
        """Tell the going that comes of it, as the plan tells it."""
        return (self.paper, self.day, self.leave)


class Round:
    """One day on which papers are looked at: what stands on it, and what has gone by now."""

    def __init__(self, deeds, day, done):
        self.day = day
        self.rules = rules_on(deeds, day)
        self.holds = holds_on(deeds, day)
        leaves = [deed for deed in deeds if deed[0] == "leave" and deed[1] <= day]
        self.leaves = sorted(leaves, key=place_of)
        self.gone = {}
        self.used = {}
        for row in done:
            self.mark(row)

    def mark(self, row):
        """Take note of a going, as the plan tells it."""
        self.gone[row[0]] = row[1]
        if row[2] is not None:
            self.used[row[2]] = True

    def unused(self, kind):
        """Tell the leave that a paper of this kind would use up, None where there is none."""
        for deed in self.leaves:
            if deed[3] == kind and deed[2] not in self.used:
                return deed[2]
        return None

    def look(self, paper, line):
        """Look at a paper, made ready, of this line."""
        to_stay = staying(paper, self.rules, self.day, self.gone)
        to_go = going(paper, self.rules, self.day, self.gone)
        asking = leave_rules(paper.kind, self.rules)
        leave = self.unused(paper.kind) if asking else None
        bars = [("stays", rule, by) for rule, by in to_stay]
        bars.extend([("held", hold) for hold in holding(self.holds, line)])
        if leave is None:
            bars.extend([("lacks", rule) for rule in asking])
        return Look(self.day, paper.name, to_stay, to_go, bars, leave)


def shelf_of(deeds):
    """Tell the papers in order, made ready, each with its line."""
    return [(Paper(deeds, name), line_of(deeds, name)) for name in papers(deeds)]


def looks_on(deeds, shelf, day, done):
    """Tell the looks of one day in turn, as far as the goings done ahead of it go."""
    here = Round(deeds, day, done)
    told = []
    for paper, line in shelf:
        if paper.coming <= day and paper.name not in here.gone:
            look = here.look(paper, line)
            told.append(look)
            # What is looked at behind it on this day meets it as gone.
            if look.lets_go():
                here.mark(look.as_row())
    return told


def walk(deeds, days, done):
    """Tell the looks of some rising days in turn, as far as the goings done ahead of them go."""
    shelf = shelf_of(deeds)
    rows = list(done)
    told = []
    for day in days:
        looks = looks_on(deeds, shelf, day, rows)
        rows.extend(rows_of(looks))
        told.extend(looks)
    return told


def rows_of(looks):
    """Tell the goings among some looks, in turn."""
    return [look.as_row() for look in looks if look.lets_go()]


def plan_looks(deeds):
    """Tell the looks of the plan in turn; between turning days nothing changes, so they are the only days."""
    return walk(deeds, turning_days(deeds), [])
