"""The turning days: those on which what calls, covers or is there may change."""

from goneday.days import later
from goneday.standing import happened
from goneday.webs import comings


def bases(deeds, since, coming):
    """Tell each day from which a rule reckons, on some day, for the paper of this coming."""
    if since[0] == "coming":
        return [coming[1]]
    days = happened(deeds, coming[2], since[1])
    # The first happening stays the first one; the last was each of them once.
    return days[:1] if since[0] == "first" else days


def reckonings(deeds, parts):
    """Tell all that a keep or a gone rule ever reckons, for each paper of its kind."""
    days = []
    for coming in comings(deeds):
        if coming[3] == parts[1]:
            days.extend([later(base, parts[3], parts[4]) for base in bases(deeds, parts[2], coming)])
    return days


def turning_days(deeds):
    """Tell the turning days, rising, each once."""
    days = [deed[1] for deed in deeds]
    for deed in deeds:
        if deed[0] == "rule" and deed[3][0] in ("keep", "gone"):
            days.extend(reckonings(deeds, deed[3]))
    return tuple(sorted(set(days)))
