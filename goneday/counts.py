"""Counts: how many papers have come, have gone and are there."""

from goneday.plans import there
from goneday.webs import comings, made_of


def sheet(deeds, day):
    """Tell for each kind, rising, how many papers have come by a day, have gone by it, and are there."""
    left = there(deeds, day)
    counted = {}
    for coming in comings(deeds):
        if coming[1] <= day:
            names = counted.setdefault(coming[3], [])
            names.append(coming[2])
    rows = []
    for kind in sorted(counted):
        come = len(counted[kind])
        here = len([name for name in counted[kind] if name in left])
        rows.append((kind, come, come - here, here))
    return tuple(rows)


def still_made(deeds, day, paper):
    """Tell how many papers that are made of a paper, however far, are there on a day."""
    made = made_of(deeds, paper)
    left = there(deeds, day)
    return len([name for name in made if name in left])
