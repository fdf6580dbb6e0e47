"""The turning days: those on which what calls, covers or is there may change."""

from goneday.days import later
from goneday.standing import happened
from goneday.webs import Paper, papers


def bases(since, paper):
    """Tell each day from which a rule reckons, on some day, for a paper."""
    if since[0] == "coming":
        return [paper.coming]
    days = happened(paper, since[1])
    # The first happening stays the first one; the last was each of them once.
    return days[:1] if since[0] == "first" else days


def reckonings(ready, parts):
    """Tell all that a keep or a gone rule ever reckons, for each paper of its kind."""
    days = []
    for paper in ready:
        if paper.kind == parts[1]:
            days.extend([later(base, parts[3], parts[4]) for base in bases(parts[2], paper)])
    return days


def turning_days(deeds):
    """Tell the turning days, rising, each once."""
    ready = [Paper(deeds, name) for name in papers(deeds)]
    days = [deed[1] for deed in deeds]
    for deed in deeds:
        if deed[0] == "rule" and deed[3][0] in ("keep", "gone"):
            days.extend(reckonings(ready, deed[3]))
    return tuple(sorted(set(days)))
