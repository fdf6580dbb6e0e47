"""Which rules and holds stand on a day, what holds cover, and what rules reckon."""

from goneday.days import later
from goneday.webs import Paper, line_of


def latest(deeds, words, day):
    """Tell for each name, rising, the latest deed of these words on or ahead of the day."""
    found = {}
    for deed in deeds:
        if deed[0] in words and deed[1] <= day:
            known = found.get(deed[2])
            if known is None or known[1] < deed[1]:
                found[deed[2]] = deed
    return [found[name] for name in sorted(found)]


def rules_on(deeds, day):
    """Tell the rules that stand on a day, rising by names."""
    return tuple([(deed[2], deed[3]) for deed in latest(deeds, ("rule", "end"), day) if deed[0] == "rule"])


def holds_on(deeds, day):
    """Tell the holds that stand on a day, rising by names."""
    return tuple([(deed[2], deed[3], deed[4]) for deed in latest(deeds, ("hold", "lift"), day) if deed[0] == "hold"])


def is_told(target, coming):
    """Tell whether a hold's target tells the paper of this coming, by its name or its kind."""
    return target[1] == (coming[2] if target[0] == "paper" else coming[3])


def holding(holds, line):
    """Tell the names of those holds that cover the paper of this line, as line_of tells it."""
    names = []
    for hold, target, deep in holds:
        reached = line if deep else line[:1]
        if any([is_told(target, coming) for coming in reached]):
            names.append(hold)
    return tuple(names)


def covering(deeds, day, paper):
    """Tell the names of the holds that cover a paper on a day, rising."""
    return holding(holds_on(deeds, day), line_of(deeds, paper))


def happened(paper, happening):
    """Tell the days on which a happening happened to a paper, rising."""
    return [day for day, other in paper.happenings if other == happening]


def base_of(paper, since, day):
    """Tell the day from which a rule reckons for a paper, None where there is none."""
    if since[0] == "coming":
        return paper.coming
    days = [other for other in happened(paper, since[1]) if other <= day]
    if not days:
        return None
    return days[0] if since[0] == "first" else days[-1]


def reckoned(paper, parts, day):
    """Tell what reckoning tells, of a paper made ready."""
    base = base_of(paper, parts[2], day)
    if base is None:
        return None
    return later(base, parts[3], parts[4])


def reckoning(deeds, parts, paper, day):
    """Tell the day that a keep or a gone rule reckons for a paper, None where there is no base."""
    return reckoned(Paper(deeds, paper), parts, day)
