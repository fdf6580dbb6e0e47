"""The desk: an archive that is told rows of words, and answers each with a text."""

from goneday.archive import Archive
from goneday.checker import holds
from goneday.clashes import clash
from goneday.days import show_day
from goneday.deeds import is_name
from goneday.deedtexts import day_in, deed_in, number_in
from goneday.errors import NoCall
from goneday.papers import paper_plan
from goneday.plans import plan, there
from goneday.spans import diary
from goneday.webs import coming_of

NUMBER_FIGURES = 2

# Each first word with what the words behind it ought to be; what enter is told goes on to the row's end.
CALLS = (
    ("strike", ("number",)),
    ("turn", ("day",)),
    ("go", ("name",)),
    ("there", ()),
    ("there", ("day",)),
    ("plan", ()),
    ("clash", ()),
    ("why", ("name", "day")),
    ("known", ("day",)),
    ("done", ()),
    ("wrong", ()),
    ("paper", ()),
)


def part_in(sort, word):
    """Tell what a word tells that ought to be of this sort, None where it isn't."""
    if sort == "day":
        return day_in(word)
    if sort == "number":
        return number_in(word, NUMBER_FIGURES)
    return word if is_name(word) else None


def call_in(row):
    """Tell the first word of a row and what the others tell, None where the desk doesn't take it."""
    words = row.split(" ")
    if words[0] == "enter":
        call = ["enter", deed_in(" ".join(words[1:]))]
        return None if None in call else call
    for word, sorts in CALLS:
        if words[0] == word and len(words) == len(sorts) + 1:
            call = [word] + [part_in(sort, part) for sort, part in zip(sorts, words[1:])]
            return None if None in call else call
    return None


def read_call(row):
    """Tell the first word of a row, a thing of any kind, and what the others tell."""
    call = call_in(row) if isinstance(row, str) else None
    if call is None:
        raise NoCall(row)
    return call


def listed(texts):
    """Write texts one behind the other."""
    return ", ".join(texts)


def day_text(day):
    """Write the day on which a paper goes, or that it never does."""
    return "never" if day is None else show_day(day)


def goings_text(rows):
    """Write rows (paper, day, leave), without the leaves."""
    return listed([" ".join([row[0], day_text(row[1])]) for row in rows])


def wrong_text(rows):
    """Write rows (paper, day, act)."""
    return listed([" ".join([row[0], show_day(row[1]), str(row[2])]) for row in rows])


def clash_text(found):
    """Write a clash, or that there is none."""
    if found is None:
        return "none"
    return " ".join([show_day(found[0]), found[1], found[2][0], found[3][0]])


def why_text(deeds, paper, day):
    """Write why a paper stays on a day by the plan, or that it has gone or hasn't come."""
    if day < coming_of(deeds, paper)[1]:
        return "not yet"
    for first, last, why in diary(deeds, paper):
        if last is None or day <= last:
            # By what a rule calls isn't written.
            return " ".join(why[:2])
    return "gone"


def act_text(archive, word, thing):
    """Do what a row tells an archive to do, and write the act's number, or that it was done."""
    if word == "enter":
        return str(archive.enter(thing))
    if word == "strike":
        return str(archive.strike(thing))
    if word == "turn":
        archive.turn(thing)
    if word == "go":
        archive.let_go(thing)
    return "ok"


def archive_text(archive, word, things):
    """Write what an archive tells of itself."""
    if word == "there":
        return listed(archive.there())
    if word == "known":
        return str(len(archive.known(things[0])))
    if word == "done":
        return goings_text(archive.done())
    return wrong_text(archive.wrong())


def deeds_text(deeds, word, things):
    """Write what is told of some deeds."""
    if word == "there":
        return listed(there(deeds, things[0]))
    if word == "plan":
        return goings_text(plan(deeds))
    if word == "clash":
        return clash_text(clash(deeds))
    if word == "why":
        return why_text(deeds, things[0], things[1])
    told = paper_plan(deeds)
    return "holds" if holds(told[0], told[1]) else "no"


class Desk:
    """A desk with an archive of its own."""

    def __init__(self):
        self.archive = Archive(0)

    def say(self, row):
        """Answer a row, a thing of any kind, with a text."""
        call = read_call(row)
        word = call[0]
        if word in ("enter", "strike", "turn", "go"):
            return act_text(self.archive, word, call[1])
        if word in ("known", "done", "wrong") or call == ["there"]:
            return archive_text(self.archive, word, call[1:])
        return deeds_text(self.archive.known_now(), word, call[1:])
