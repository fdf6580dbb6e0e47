"""Moves: which papers go on another day by other deeds."""

from goneday.plans import days_of


def moved(one, other):
    """Tell the papers of both sets of deeds that go on unlike days, in the order of the one, with both days."""
    first = days_of(one)
    second = days_of(other)
    shared = [(paper, first[paper], second[paper]) for paper in first if paper in second]
    return tuple([row for row in shared if row[1] != row[2]])
