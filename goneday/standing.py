"""Which rules and holds stand on a day, what holds cover, and what rules reckon."""

from goneday.days import later
from goneday.webs import coming_of, kind_of, line_of


def latest(deeds, words, day):
    """Tell for each name, rising, the latest deed of these words on or ahead of the day."""
    found = {}
    for deed in deeds:
        if deed[0] in words and deed[1] <= day:
            known = found.get(deed[2])
            if known is None or known[1] < deed[1]:
                found[deed[2]] = deed
    return [found[name] for name in sorted(found)]


def rules_on(deeds, day):
    """Tell the rules that stand on a day, rising by names."""
    return tuple([(deed[2], deed[3]) for deed in latest(deeds, ("rule", "end"), day) if deed[0] == "rule"])


def holds_on(deeds, day):
    """Tell the holds that stand on a day, rising by names."""
    return tuple([(deed[2], deed[3], deed[4]) for deed in latest(deeds, ("hold", "lift"), day) if deed[0] == "hold"])


def is_told(deeds, target, paper):
    """Tell whether a hold's target tells this paper, by its name or its kind."""
    if target[0] == "paper":
        return target[1] == paper
    return target[1] == kind_of(deeds, paper)


def covering(deeds, day, paper):
    """Tell the names of the holds that cover a paper on a day, rising."""
    line = line_of(deeds, paper)
    names = []
    for hold, target, deep in holds_on(deeds, day):
        reached = line if deep else [paper]
        if any([is_told(deeds, target, other) for other in reached]):
            names.append(hold)
    return tuple(names)


def happened(deeds, paper, happening):
    """Tell the days on which a happening happened to a paper, rising."""
    return sorted([deed[1] for deed in deeds if deed[0] == "happens" and deed[2:] == (paper, happening)])


def base_of(deeds, since, paper, day):
    """Tell the day from which a rule reckons for a paper, None where there is none."""
    coming = coming_of(deeds, paper)[1]
    if since[0] == "coming":
        return coming
    days = [other for other in happened(deeds, paper, since[1]) if other <= day]
    if not days:
        return None
    return days[0] if since[0] == "first" else days[-1]


def reckoning(deeds, parts, paper, day):
    """Tell the day that a keep or a gone rule reckons for a paper, None where there is no base."""
    base = base_of(deeds, parts[2], paper, day)
    if base is None:
        return None
    return later(base, parts[3], parts[4])
