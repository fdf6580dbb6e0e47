"""The papers of some deeds, in order, and what they are made of."""

from goneday.errors import NoPaper


def place_of(deed):
    """Tell what a paper's coming stands in order by."""
    return (deed[1], deed[2])


def comings(deeds):
    """Tell the deeds by which papers come, in order."""
    return sorted([deed for deed in deeds if deed[0] == "paper"], key=place_of)


def coming_of(deeds, paper):
    """Tell the deed by which a paper comes."""
    # Compared and not looked up: what is asked of may be a list or a dict.
    for deed in deeds:
        if deed[0] == "paper" and deed[2] == paper:
            return deed
    raise NoPaper("no paper of the deeds")


def papers(deeds):
    """Tell the papers in order."""
    return tuple([deed[2] for deed in comings(deeds)])


def kind_of(deeds, paper):
    """Tell the kind of a paper."""
    return coming_of(deeds, paper)[3]


def makers(deeds, paper):
    """Tell the makers of a paper that count, in order."""
    own = coming_of(deeds, paper)
    named = [deed for deed in comings(deeds) if deed[2] in own[4]]
    return tuple([deed[2] for deed in named if place_of(deed) < place_of(own)])


def made_of(deeds, paper):
    """Tell the papers that are made of a paper, however far, in order."""
    coming_of(deeds, paper)
    reached = {paper: True}
    made = []
    # Makers stand ahead, so one walk in order meets each paper when all its makers are settled.
    for name in papers(deeds):
        if any([maker in reached for maker in makers(deeds, name)]):
            reached[name] = True
            made.append(name)
    return tuple(made)


def line_of(deeds, paper):
    """Tell a paper and all that it is made of, however far, each once."""
    line = [paper]
    waiting = list(makers(deeds, paper))
    while waiting:
        name = waiting.pop()
        if name not in line:
            line.append(name)
            waiting.extend(makers(deeds, name))
    return line
