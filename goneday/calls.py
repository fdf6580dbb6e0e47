"""Which rules call a paper to stay or to go on a day, and whether it needs a leave."""

from goneday.standing import reckoned, rules_on
from goneday.webs import Paper, kind_of


def rules_over(paper, rules, day):
    """Tell those rules that may call a paper on a day."""
    if paper.coming > day:
        return []
    return [pair for pair in rules if pair[1][1] == paper.kind]


def has_gone(gone, paper, day):
    """Tell whether a paper has gone on or ahead of the day."""
    went = gone.get(paper)
    return went is not None and went <= day


def staying(paper, rules, day, gone):
    """Tell by which of the rules that stand a paper, made ready, is called to stay, and by what."""
    left = [maker for maker in paper.makers if not has_gone(gone, maker, day)]
    calls = []
    for rule, parts in rules_over(paper, rules, day):
        if parts[0] == "keep":
            due = reckoned(paper, parts, day)
            if due is None or due > day:
                calls.append((rule, due))
        if parts[0] == "while" and left:
            calls.append((rule, left[0]))
    return tuple(calls)


def going(paper, rules, day, gone):
    """Tell by which of the rules that stand a paper, made ready, is called to go, and by what."""
    away = [maker for maker in paper.makers if has_gone(gone, maker, day)]
    calls = []
    for rule, parts in rules_over(paper, rules, day):
        if parts[0] == "gone":
            due = reckoned(paper, parts, day)
            if due is not None and due <= day:
                calls.append((rule, due))
        if parts[0] == "follow" and away:
            calls.append((rule, away[0]))
    return tuple(calls)


def leave_rules(kind, rules):
    """Tell the names of those rules by which papers of a kind need a leave."""
    return [rule for rule, parts in rules if parts == ("leave", kind)]


def stays(deeds, day, paper, gone):
    """Tell by which rules a paper is called to stay, and by what."""
    return staying(Paper(deeds, paper), rules_on(deeds, day), day, gone)


def goes(deeds, day, paper, gone):
    """Tell by which rules a paper is called to go, and by what."""
    return going(Paper(deeds, paper), rules_on(deeds, day), day, gone)


def needs_leave(deeds, day, paper):
    """Tell whether a paper needs a leave on a day."""
    # Unlike a call, this is told ahead of the paper's coming, too.
    return len(leave_rules(kind_of(deeds, paper), rules_on(deeds, day))) > 0
