"""The papers of some deeds, in order, and what they are made of."""

from goneday.errors import NoPaper


class Paper:
    """A paper with what the deeds tell of it alone, found once for many askings."""

    def __init__(self, deeds, name):
        coming = coming_of(deeds, name)
        self.name = coming[2]
        self.coming = coming[1]
        self.kind = coming[3]
        self.makers = makers(deeds, name)
        self.happenings = sorted([(deed[1], deed[3]) for deed in deeds if deed[0] == "happens" and deed[2] == name])


def place_of(deed):
    """Tell what a paper's coming stands in order by."""
    return (deed[1], deed[2])


def comings(deeds):
    """Tell the deeds by which papers come, in order."""
    return sorted([deed for deed in deeds if deed[0] == "paper"], key=place_of)


def coming_of(deeds, paper):
    """Tell the deed by which a paper comes."""
    # Compared and not looked up: what is asked of may be a list or a dict.
    for deed in deeds:
        if deed[0] == "paper" and deed[2] == paper:
            return deed
    raise NoPaper("no paper of the deeds")


def papers(deeds):
    """Tell the papers in order."""
    return tuple([deed[2] for deed in comings(deeds)])


def kind_of(deeds, paper):
    """Tell the kind of a paper."""
    return coming_of(deeds, paper)[3]


def maker_comings(deeds, coming):
    """Tell the comings of the makers that count of the paper of this coming, in order."""
    named = [deed for deed in deeds if deed[0] == "paper" and deed[2] in coming[4]]
    return comings([deed for deed in named if place_of(deed) < place_of(coming)])


def makers(deeds, paper):
    """Tell the makers of a paper that count, in order."""
    return tuple([deed[2] for deed in maker_comings(deeds, coming_of(deeds, paper))])


def made_of(deeds, paper):
    """Tell the papers that are made of a paper, however far, in order."""
    coming_of(deeds, paper)
    reached = {paper: True}
    made = []
    # Makers stand ahead, so one walk in order meets each paper when all its makers are settled.
    for name in papers(deeds):
        if any([maker in reached for maker in makers(deeds, name)]):
            reached[name] = True
            made.append(name)
    return tuple(made)


def line_of(deeds, paper):
    """Tell the comings of a paper, first, and of all that it is made of, however far, each once."""
    line = [coming_of(deeds, paper)]
    # The list grows while it is gone through, so places are counted and not walked.
    place = 0
    while place < len(line):
        line.extend([deed for deed in maker_comings(deeds, line[place]) if deed not in line])
        place = place + 1
    return line


def ways_from(deeds, paper):
    """Tell by names a way to the paper itself and to each that it is made of: papers, each a maker of the one ahead."""
    line = line_of(deeds, paper)
    ways = {paper: (paper,)}
    # The line tells each paper behind one that is made of it, so the way to that one is there already.
    for coming in line:
        for maker in makers(deeds, coming[2]):
            ways.setdefault(maker, ways[coming[2]] + (maker,))
    return ways
