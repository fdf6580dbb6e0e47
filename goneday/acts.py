"""What an archive does, as functions of its acts and of the goings that were done.

An act is ("enter", deed) or ("strike", number); its number is its place. A going is a row
(paper, day, leave, by_hand), in the order in which they were done.
"""

from goneday.calls import goes, has_gone, needs_leave, stays
from goneday.days import is_day, is_whole
from goneday.deeds import is_deed, quarrel
from goneday.errors import GoneMaker, Held, MustStay, NoDay, NoDeed, NoLeave, NoNumber, NoPaper, Twice
from goneday.goings import Round, rows_of, walk
from goneday.plans import days_of
from goneday.standing import covering
from goneday.turning import turning_days
from goneday.webs import Paper, coming_of, kind_of, line_of, makers, papers


def known_by(acts):
    """Tell the deeds that are known behind some acts, by the numbers of the acts that entered them."""
    known = {}
    for number, act in enumerate(acts):
        if act[0] == "enter":
            known[number] = act[1]
        else:
            known.pop(act[1])
    return known


def known_deeds(acts):
    """Tell the deeds that are known behind some acts, in the order of the acts."""
    return tuple(known_by(acts).values())


def known_on(acts, spans, day):
    """Tell the deeds that were known on a day, a thing of any kind, by spans (first, last, how many acts by then)."""
    if is_whole(day):
        for first, last, many in spans:
            if first <= day <= last:
                return known_deeds(acts[:many])
    raise NoDay("a day that is neither closed nor the present one")


def days_gone(done):
    """Tell the days of goings by the names of the papers."""
    days = {}
    for row in done:
        days[row[0]] = row[1]
    return days


def gone_maker(deeds, done, coming):
    """Tell the paper by which this coming can't be, None where it can."""
    let_go = days_gone(done)
    if coming[2] in let_go:
        return coming[2]
    day = coming[1]
    planned = days_of(deeds)
    for maker in makers(deeds + (coming,), coming[2]):
        if has_gone(planned, maker, day) or has_gone(let_go, maker, day):
            return maker
        # All makers stand ahead, so the whole plan's goings tell no more than those ahead of its turn.
        if goes(deeds, day, maker, planned):
            return maker
    return None


def check_entry(acts, done, thing):
    """Refuse what can't be entered, a thing of any kind."""
    if not is_deed(thing):
        raise NoDeed("no deed")
    known = known_by(acts)
    for number in known:
        if quarrel(known[number], thing):
            raise Twice(number)
    if thing[0] == "paper":
        barring = gone_maker(known_deeds(acts), done, thing)
        if barring is not None:
            raise GoneMaker(barring)


def check_strike(acts, thing):
    """Refuse what can't be struck, a thing of any kind."""
    # Asked first, for True is found where 1 is, and a list can't be looked up.
    if not is_whole(thing) or thing not in known_by(acts):
        raise NoNumber("no number of an act by which a known deed was entered")


def check_turn(present, thing):
    """Refuse what the present day, None where there is none yet, can't turn to, a thing of any kind."""
    if not is_day(thing) or (present is not None and thing <= present):
        raise NoDay("no day to turn to")


def closed(deeds, first, last, done):
    """Tell the goings of the days from the first to the last, which are closed in turn by these deeds."""
    # Between turning days nothing begins to go, but on the first an act may have made it so.
    days = [first] + [day for day in turning_days(deeds) if first < day <= last]
    return [row + (False,) for row in rows_of(walk(deeds, days, done))]


def is_there(deeds, day, done, paper):
    """Tell whether a paper of the deeds has come by a day and hasn't been let go."""
    return coming_of(deeds, paper)[1] <= day and paper not in days_gone(done)


def there_by(deeds, day, done):
    """Tell the papers that have come by a day and haven't been let go, in order."""
    return tuple([name for name in papers(deeds) if is_there(deeds, day, done, name)])


def refuse(bar):
    """Refuse a going by what bars it, as a diary tells it."""
    if bar[0] == "stays":
        raise MustStay(bar[1])
    if bar[0] == "held":
        raise Held(bar[1])
    raise NoLeave("needs a leave, and none is unused")


def by_hand(deeds, day, done, thing):
    """Tell the going of a paper, a thing of any kind, that is let go by hand, or refuse it."""
    if not is_there(deeds, day, done, thing):
        raise NoPaper("not there")
    look = Round(deeds, day, done).look(Paper(deeds, thing), line_of(deeds, thing))
    # The bars stand in the order in which they refuse, each sort with the least name first.
    if look.bars:
        refuse(look.bars[0])
    return look.as_row() + (True,)


def has_leave(deeds, leave, kind, day):
    """Tell whether some deed gives this leave to papers of this kind on or ahead of the day."""
    return any([deed[0] == "leave" and deed[2:] == (leave, kind) and deed[1] <= day for deed in deeds])


def is_right(deeds, done, place):
    """Tell whether the going at this place of those done is right by these deeds."""
    row = done[place]
    paper = row[0]
    day = row[1]
    if paper not in papers(deeds) or coming_of(deeds, paper)[1] > day:
        return False
    gone = days_gone(done[:place])
    if stays(deeds, day, paper, gone) or covering(deeds, day, paper):
        return False
    if needs_leave(deeds, day, paper) and not has_leave(deeds, row[2], kind_of(deeds, paper), day):
        return False
    return row[3] or len(goes(deeds, day, paper, gone)) > 0


def judged(deeds, done, wrong, number):
    """Tell, by papers, the act by which each going that isn't right now turned so.

    So far wrong told this; the act of this number is the one that was done since.
    """
    told = {}
    for place in range(len(done)):
        if not is_right(deeds, done, place):
            paper = done[place][0]
            told[paper] = wrong.get(paper, number)
    return told


def wrong_rows(done, wrong):
    """Tell rows (paper, day, act) of the goings that aren't right, in the order in which they were done."""
    return tuple([(row[0], row[1], wrong[row[0]]) for row in done if row[0] in wrong])
