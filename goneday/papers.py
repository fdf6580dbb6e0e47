"""Answers on paper: claims with the grounds on which the checker takes them."""

from goneday.clashes import clash
from goneday.goings import plan_looks
from goneday.plans import plan
from goneday.spans import diary_of
from goneday.standing import holds_on, is_told
from goneday.webs import coming_of, papers, ways_from


def called_by(look):
    """Tell by which rule, and by what, a paper goes at this look, None where it doesn't go."""
    return look.to_go[0] if look.lets_go() else None


def plan_grounds(deeds):
    """Tell for each paper in order its diary, and by what it is called to go."""
    looks = plan_looks(deeds)
    pairs = []
    for name in papers(deeds):
        own = [look for look in looks if look.paper == name]
        pairs.append((diary_of(own), called_by(own[-1])))
    return tuple(pairs)


def paper_plan(deeds):
    """Tell the plan's claim and its grounds."""
    return (("plan", deeds, plan(deeds)), plan_grounds(deeds))


def paper_made(deeds, paper, other):
    """Tell the claim that a paper is made of the other, and its grounds, None where it isn't."""
    ways = ways_from(deeds, paper)
    coming_of(deeds, other)
    if paper == other or other not in ways:
        return None
    return (("made", deeds, paper, other), ways[other])


def paper_covered(deeds, day, paper, hold):
    """Tell the claim that a hold covers a paper on a day, and its grounds, None where it doesn't."""
    ways = ways_from(deeds, paper)
    for name, target, deep in holds_on(deeds, day):
        reached = list(ways) if deep else [paper]
        told = [other for other in reached if is_told(target, coming_of(deeds, other))]
        if name == hold and told:
            return (("covered", deeds, day, paper, name), ways[told[0]])
    return None


def paper_clash(deeds):
    """Tell the claim of the first clash and its grounds, None where there is none."""
    found = clash(deeds)
    if found is None:
        return None
    return (("clash", deeds, plan(deeds)) + found, plan_grounds(deeds))
