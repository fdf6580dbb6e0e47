"""A slow and plain reading of the promises, to hold the program against."""

import calendar
import datetime
import itertools

START = datetime.date(2000, 1, 1)


def plain_later(day, many, unit):
    date = START + datetime.timedelta(days=day)
    if unit == "days":
        return day + many
    months = date.year * 12 + date.month - 1 + many * {"months": 1, "years": 12}[unit]
    year, month = months // 12, months % 12 + 1
    last = calendar.monthrange(year, month)[1]
    return (datetime.date(year, month, min(date.day, last)) - START).days


class Plain:
    """One set of deeds, read plainly: deeds are gone through in turn, as if each came to be known on its day."""

    def __init__(self, deeds):
        self.deeds = sorted(deeds, key=lambda deed: deed[1])
        self.comings = {deed[2]: deed for deed in deeds if deed[0] == "paper"}
        self.order = sorted(self.comings, key=lambda name: (self.comings[name][1], name))
        self.stood = {}

    def makers(self, paper):
        ahead = self.order[:self.order.index(paper)]
        return tuple(name for name in ahead if name in self.comings[paper][4])

    def is_made(self, paper, other):
        return any(maker == other or self.is_made(maker, other) for maker in self.makers(paper))

    def stand(self, setting, ending, day):
        if (setting, day) not in self.stood:
            self.stood[setting, day] = self.standing(setting, ending, day)
        return self.stood[setting, day]

    def standing(self, setting, ending, day):
        found = {}
        for deed in self.deeds:
            if deed[1] > day:
                break
            if deed[0] == setting:
                found[deed[2]] = (deed[2],) + deed[3:]
            if deed[0] == ending:
                found.pop(deed[2], None)
        return tuple(found[name] for name in sorted(found))

    def told_by(self, target):
        if target[0] == "paper":
            return [name for name in self.order if name == target[1]]
        return [name for name in self.order if self.comings[name][3] == target[1]]

    def covers(self, hold, paper):
        told = self.told_by(hold[1])
        return paper in told or (hold[2] and any(self.is_made(paper, other) for other in told))

    def reckoning(self, parts, paper, day):
        base = self.comings[paper][1] if parts[2] == ("coming",) else None
        for deed in self.deeds:
            if deed[0] == "happens" and deed[2] == paper and deed[3:] == parts[2][1:] and deed[1] <= day:
                if base is None or parts[2][0] == "last":
                    base = deed[1]
        return None if base is None else plain_later(base, parts[3], parts[4])

    def calls(self, day, paper, gone):
        staying, going = [], []
        away = [name for name in self.makers(paper) if name in gone and gone[name] <= day]
        there = [name for name in self.makers(paper) if name not in away]
        for rule, parts in self.stand("rule", "end", day):
            if parts[1] != self.comings[paper][3] or self.comings[paper][1] > day:
                continue
            due = self.reckoning(parts, paper, day) if len(parts) == 5 else None
            if parts[0] == "keep" and (due is None or day < due):
                staying.append((rule, due))
            if parts[0] == "gone" and due is not None and day >= due:
                going.append((rule, due))
            staying.extend((rule, name) for name in there[:1] if parts[0] == "while")
            going.extend((rule, name) for name in away[:1] if parts[0] == "follow")
        return tuple(staying), tuple(going)

    def turning(self):
        days = {deed[1] for deed in self.deeds}
        rules = [deed[3] for deed in self.deeds if deed[0] == "rule" and len(deed[3]) == 5]
        for parts, paper, day in itertools.product(rules, self.order, sorted(days)):
            if parts[1] == self.comings[paper][3]:
                days = days | {self.reckoning(parts, paper, day)}
        return tuple(sorted(days - {None}))

    def holding(self, day, paper):
        return tuple(hold[0] for hold in self.stand("hold", "lift", day) if self.covers(hold, paper))

    def asking(self, day, paper):
        asked = ("leave", self.comings[paper][3])
        return tuple(rule for rule, parts in self.stand("rule", "end", day) if parts == asked)

    def leaves(self, day, paper):
        """The leaves of the paper's kind by this day, the one to be used up first in front."""
        kind = self.comings[paper][3]
        found = [deed[1:3] for deed in self.deeds if deed[0] == "leave" and deed[3] == kind and deed[1] <= day]
        return [name for day, name in sorted(found)]

    def walk(self, days):
        """The plan, day by day."""
        return Walk(self, days)


class Walk:
    """The plan walked on some days: what each paper met at its turn on each of them, and the goings."""

    def __init__(self, plain, days):
        self.plain = plain
        self.looks = {}
        self.gone = {}
        self.used = {}
        for day in days:
            for paper in plain.order:
                if plain.comings[paper][1] <= day and paper not in self.gone:
                    self.look(day, paper)

    def look(self, day, paper):
        staying, going = self.plain.calls(day, paper, self.gone)
        held = self.plain.holding(day, paper)
        asking = self.plain.asking(day, paper)
        unused = [name for name in self.plain.leaves(day, paper) if name not in self.used.values()]
        lacking = () if unused else asking
        self.looks[day, paper] = (staying, going, held, lacking)
        if going and not staying and not held and not lacking:
            self.gone[paper] = day
            if asking:
                self.used[paper] = unused[0]

    def rows(self):
        return tuple((name, self.gone.get(name), self.used.get(name)) for name in self.plain.order)

    def there(self, day):
        come = [name for name in self.plain.order if self.plain.comings[name][1] <= day]
        return tuple(name for name in come if self.gone.get(name, day + 1) > day)

    def clashing(self, day):
        looks = [(name, self.looks.get((day, name), ((), ()))) for name in self.plain.order]
        return tuple(name for name, look in looks if look[0] and look[1])

    def clash(self):
        for day, paper in self.looks:
            staying, going, held, lacking = self.looks[day, paper]
            if staying and going:
                return (day, paper, staying[0], going[0])
        return None

    def earliest(self, paper):
        for day, name in self.looks:
            staying, going, held, lacking = self.looks[day, name]
            if name == paper and not staying and not held and not lacking:
                return day
        return None

    def is_why(self, day, paper, why):
        """Whether this is a reason for which the paper stayed on this day."""
        staying, going, held, lacking = self.looks[day, paper]
        whys = [("stays",) + call for call in staying]
        whys += [("held", hold) for hold in held] + [("lacks", rule) for rule in lacking]
        return why in whys + [("none",)] * (not going)
