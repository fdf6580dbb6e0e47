"""Which rules call a paper to stay or to go on a day, and whether it needs a leave."""

from goneday.standing import reckoning, rules_on
from goneday.webs import coming_of, kind_of, makers


def rules_over(deeds, day, paper):
    """Tell the rules that may call a paper on a day, rising by names."""
    coming = coming_of(deeds, paper)
    if coming[1] > day:
        return ()
    return tuple([pair for pair in rules_on(deeds, day) if pair[1][1] == coming[3]])


def has_gone(gone, paper, day):
    """Tell whether a paper has gone on or ahead of the day."""
    went = gone.get(paper)
    return went is not None and went <= day


def stays(deeds, day, paper, gone):
    """Tell by which rules a paper is called to stay, and by what."""
    left = [maker for maker in makers(deeds, paper) if not has_gone(gone, maker, day)]
    calls = []
    for rule, parts in rules_over(deeds, day, paper):
        if parts[0] == "keep":
            due = reckoning(deeds, parts, paper, day)
            if due is None or due > day:
                calls.append((rule, due))
        if parts[0] == "while" and left:
            calls.append((rule, left[0]))
    return tuple(calls)


def goes(deeds, day, paper, gone):
    """Tell by which rules a paper is called to go, and by what."""
    away = [maker for maker in makers(deeds, paper) if has_gone(gone, maker, day)]
    calls = []
    for rule, parts in rules_over(deeds, day, paper):
        if parts[0] == "gone":
            due = reckoning(deeds, parts, paper, day)
            if due is not None and due <= day:
                calls.append((rule, due))
        if parts[0] == "follow" and away:
            calls.append((rule, away[0]))
    return tuple(calls)


def needs_leave(deeds, day, paper):
    """Tell whether a paper needs a leave on a day."""
    # Unlike a call, this is told ahead of the paper's coming, too.
    asked = ("leave", kind_of(deeds, paper))
    return any([parts == asked for rule, parts in rules_on(deeds, day)])
