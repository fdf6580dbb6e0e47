"""The checker: whether a claim with its grounds is so, by the deeds in it alone.

What is handed in may be of any kind and written by anyone. A claimed plan is gone through paper by paper: where it
is told rightly why each paper stays on each day ahead of its going, and why it goes then, no other plan can be.
"""

from goneday.calls import goes, leave_rules, needs_leave, stays
from goneday.days import is_whole
from goneday.deeds import go_together, is_deed, is_tuple_of
from goneday.standing import covering, holds_on, is_told, reckoned, rules_on
from goneday.webs import Paper, coming_of, kind_of, makers, papers


def are_deeds(thing):
    """Tell whether a thing of any kind is a tuple of deeds that go together."""
    return isinstance(thing, tuple) and all([is_deed(deed) for deed in thing]) and go_together(thing)


def is_any_day(thing):
    """Tell whether a thing of any kind is a day, also one behind the last that deeds may tell."""
    return is_whole(thing) and thing >= 0


def is_call(thing, calls):
    """Tell whether a thing of any kind is one of these pairs (rule, by)."""
    if not is_tuple_of(thing, 2):
        return False
    # Asked first, for True is found where 1 is.
    known_kind = thing[1] is None or is_whole(thing[1]) or isinstance(thing[1], str)
    return known_kind and thing in calls


def is_way(deeds, paper, thing):
    """Tell whether a thing of any kind is a tuple of papers from this one on, each a maker of the one ahead."""
    if not isinstance(thing, tuple) or thing[:1] != (paper,):
        return False
    for place in range(1, len(thing)):
        if thing[place] not in makers(deeds, thing[place - 1]):
            return False
    return True


def is_made(deeds, paper, other, grounds):
    """Tell whether these are grounds for a paper being made of the other."""
    if paper not in papers(deeds) or not is_way(deeds, paper, grounds):
        return False
    return len(grounds) > 1 and grounds[-1] == other


def is_asked(deeds, day, paper):
    """Tell whether two things of any kind are a day and a paper of the deeds."""
    return is_any_day(day) and paper in papers(deeds)


def is_reckoned(call, calls):
    """Tell whether a pair is one of these (rule, by), by a reckoning, as keep and gone rules alone call."""
    return (call[1] is None or is_whole(call[1])) and is_call(call, calls)


def is_stay(deeds, day, paper, call, grounds):
    """Tell whether a keep rule calls a paper to stay on a day by this, without grounds."""
    return grounds is None and is_asked(deeds, day, paper) and is_reckoned(call, stays(deeds, day, paper, {}))


def is_due(deeds, day, paper, call, grounds):
    """Tell whether a gone rule calls a paper to go on a day by this, without grounds."""
    return grounds is None and is_asked(deeds, day, paper) and is_reckoned(call, goes(deeds, day, paper, {}))


def is_covered(deeds, day, paper, hold, grounds):
    """Tell whether these are grounds for a hold covering a paper on a day."""
    if not is_asked(deeds, day, paper) or not is_way(deeds, paper, grounds):
        return False
    for name, target, deep in holds_on(deeds, day):
        if name == hold and (deep or len(grounds) == 1):
            return is_told(target, coming_of(deeds, grounds[-1]))
    return False


def is_row(thing):
    """Tell whether a thing of any kind is written as a plan's row, but for the names in it."""
    return is_tuple_of(thing, 3) and (thing[1] is None or is_any_day(thing[1]))


def are_rows(deeds, thing):
    """Tell whether a thing of any kind is written as rows, one for each paper of these deeds in order."""
    if not isinstance(thing, tuple) or not all([is_row(row) for row in thing]):
        return False
    return tuple([row[0] for row in thing]) == papers(deeds)


def gone_by(rows):
    """Tell the days on which papers go by these rows."""
    gone = {}
    for paper, day, leave in rows:
        if day is not None:
            gone[paper] = day
    return gone


def leave_left(deeds, rows, place, day):
    """Tell the leave that the paper at this place would use up at its turn on a day, None where there is none."""
    used = []
    for other, row in enumerate(rows):
        if row[1] is not None and (row[1], other) < (day, place):
            used.append(row[2])
    kind = kind_of(deeds, rows[place][0])
    given = [deed[1:3] for deed in deeds if deed[0] == "leave" and deed[3] == kind and deed[1] <= day]
    left = [leave for since, leave in sorted(given) if leave not in used]
    return left[0] if left else None


def is_why(deeds, rows, place, day, why):
    """Tell whether a thing of any kind tells why the paper at this place stays at its turn on a day."""
    paper = rows[place][0]
    if why == ("none",):
        return not goes(deeds, day, paper, gone_by(rows))
    if is_tuple_of(why, 3) and why[0] == "stays":
        return is_call(why[1:], stays(deeds, day, paper, gone_by(rows)))
    if is_tuple_of(why, 2) and why[0] == "held":
        return why[1] in covering(deeds, day, paper)
    if is_tuple_of(why, 2) and why[0] == "lacks":
        asking = leave_rules(kind_of(deeds, paper), rules_on(deeds, day))
        return why[1] in asking and leave_left(deeds, rows, place, day) is None
    return False


def ceasing_days(deeds, rows, paper):
    """Tell the days on which a reason may cease, for which a paper stayed on the day ahead."""
    ready = Paper(deeds, paper)
    told = [deed[1] for deed in deeds]
    days = list(told)
    for deed in deeds:
        if deed[0] == "rule" and deed[3][0] in ("keep", "gone"):
            # A base changes on days of deeds alone.
            days.extend([reckoned(ready, deed[3], day) for day in told])
    # Makers go on these. Leaves are used up on them, too, but that never ends a lack.
    days.extend(list(gone_by(rows).values()))
    return sorted(set([day for day in days if day is not None]))


def is_stretch(thing):
    """Tell whether a thing of any kind is written as a stretch of a diary, but for its reason."""
    if not is_tuple_of(thing, 3) or not is_any_day(thing[0]):
        return False
    return thing[1] is None or (is_any_day(thing[1]) and thing[0] <= thing[1])


def are_joined(stretches, coming, going):
    """Tell whether stretches lie one behind the other from the coming to the day ahead of the going."""
    day = coming
    for first, last, why in stretches:
        if first != day:
            return False
        day = None if last is None else last + 1
    return day == going


def days_in(stretch, days):
    """Tell the first day of a stretch and those of some days that lie behind it in the stretch."""
    behind = [day for day in days if day > stretch[0]]
    return [stretch[0]] + [day for day in behind if stretch[1] is None or day <= stretch[1]]


def is_diary(deeds, rows, place, thing):
    """Tell whether a thing of any kind is a diary, by these rows, of the paper at this place."""
    if not isinstance(thing, tuple) or not all([is_stretch(stretch) for stretch in thing]):
        return False
    paper = rows[place][0]
    if not are_joined(thing, coming_of(deeds, paper)[1], rows[place][1]):
        return False
    days = ceasing_days(deeds, rows, paper)
    for stretch in thing:
        for day in days_in(stretch, days):
            if not is_why(deeds, rows, place, day, stretch[2]):
                return False
    return True


def is_going(deeds, rows, place, why):
    """Tell whether the paper at this place goes as its row tells, called by this, a thing of any kind."""
    paper = rows[place][0]
    day = rows[place][1]
    if day is None:
        return rows[place][2] is None and why is None
    gone = gone_by(rows)
    if stays(deeds, day, paper, gone) or covering(deeds, day, paper):
        return False
    if not is_call(why, goes(deeds, day, paper, gone)):
        return False
    if not needs_leave(deeds, day, paper):
        return rows[place][2] is None
    return rows[place][2] is not None and rows[place][2] == leave_left(deeds, rows, place, day)


def is_plan(deeds, rows, grounds):
    """Tell whether these are grounds for rows, a thing of any kind, being the plan's."""
    if not are_rows(deeds, rows) or not is_tuple_of(grounds, len(rows)):
        return False
    for place, pair in enumerate(grounds):
        if not is_tuple_of(pair, 2):
            return False
        if not is_going(deeds, rows, place, pair[1]) or not is_diary(deeds, rows, place, pair[0]):
            return False
    return True


def is_clash(deeds, rows, day, paper, one, other, grounds):
    """Tell whether these are grounds for rules clashing over a paper on a day."""
    if not is_asked(deeds, day, paper) or not is_plan(deeds, rows, grounds):
        return False
    gone = gone_by(rows)
    # Rules call what has gone, too, but then it has no turn any more.
    if gone.get(paper, day) < day:
        return False
    return is_call(one, stays(deeds, day, paper, gone)) and is_call(other, goes(deeds, day, paper, gone))


def holds(claim, grounds):
    """Tell whether a claim with its grounds, things of any kind, is so."""
    if not isinstance(claim, tuple) or len(claim) < 2 or not are_deeds(claim[1]):
        return False
    word = claim[0]
    deeds = claim[1]
    if word == "made" and len(claim) == 4:
        return is_made(deeds, claim[2], claim[3], grounds)
    if word == "stays" and len(claim) == 6:
        return is_stay(deeds, claim[2], claim[3], claim[4:], grounds)
    if word == "due" and len(claim) == 6:
        return is_due(deeds, claim[2], claim[3], claim[4:], grounds)
    if word == "covered" and len(claim) == 5:
        return is_covered(deeds, claim[2], claim[3], claim[4], grounds)
    if word == "plan" and len(claim) == 3:
        return is_plan(deeds, claim[2], grounds)
    if word == "clash" and len(claim) == 7:
        return is_clash(deeds, claim[2], claim[3], claim[4], claim[5], claim[6], grounds)
    return False
