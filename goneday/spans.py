"""Spans: from when on nothing bars a paper, and why it stays on each day."""

from goneday.goings import plan_looks
from goneday.webs import coming_of


def looks_at(deeds, paper):
    """Tell the looks of the plan at one paper, in turn, up to the one at which it goes."""
    coming_of(deeds, paper)
    return [look for look in plan_looks(deeds) if look.paper == paper]


def earliest(deeds, paper):
    """Tell the first day on which nothing bars a paper, None where there is none."""
    # What bars on a turning day bars up to the next one, so the first day is one of them.
    for look in looks_at(deeds, paper):
        if not look.bars:
            return look.day
    return None


def why_stays(look):
    """Tell why a paper stays that doesn't go at this look."""
    return look.bars[0] if look.to_go else ("none",)


def ended(stretches, day):
    """Tell stretches of which the last one ends on the day ahead of this one."""
    return [(first, day - 1 if last is None else last, why) for first, last, why in stretches]


def diary_of(looks):
    """Tell the diary of a paper, of the plan's looks at it in turn."""
    stretches = []
    for look in looks:
        if look.lets_go():
            return tuple(ended(stretches, look.day))
        why = why_stays(look)
        # A stretch goes on while the reason is the same.
        if not stretches or stretches[-1][2] != why:
            stretches = ended(stretches, look.day)
            stretches.append((look.day, None, why))
    return tuple(stretches)


def diary(deeds, paper):
    """Tell the stretches of days on which a paper stays, and why on each."""
    return diary_of(looks_at(deeds, paper))
