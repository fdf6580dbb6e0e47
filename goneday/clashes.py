"""Clashes: papers that one rule calls to stay and another one to go."""

from goneday.goings import plan_looks
from goneday.turning import turning_days


def clashes(deeds):
    """Tell the looks of the plan at which rules clash, in turn."""
    return [look for look in plan_looks(deeds) if look.to_stay and look.to_go]


def clash(deeds):
    """Tell the first clash, None where there is none."""
    found = clashes(deeds)
    if not found:
        return None
    first = found[0]
    return (first.day, first.paper, first.to_stay[0], first.to_go[0])


def clashing(deeds, day):
    """Tell the papers over which rules clash on a day, in order."""
    # From one turning day up to the next all calls are the same.
    latest = max([turn for turn in turning_days(deeds) if turn <= day], default=None)
    return tuple([look.paper for look in clashes(deeds) if look.day == latest])
