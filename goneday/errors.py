"""The refusals of the program, one class each."""


class ArchiveError(ValueError):
    """Any refusal."""


class NoDay(ArchiveError):
    """What was handed in is no date, or no day that can be asked of."""


class NoDeed(ArchiveError):
    """What was handed in is no deed."""


class Twice(ArchiveError):
    """A deed quarrels with a known one, that of the act with this number."""

    def __init__(self, number):
        ArchiveError.__init__(self, f"quarrels with the deed of act {number}")
        self.number = number


class GoneMaker(ArchiveError):
    """A paper can't come, for this paper has gone or is called to go."""

    def __init__(self, paper):
        ArchiveError.__init__(self, f"gone, or called to go: {paper}")
        self.paper = paper


class NoNumber(ArchiveError):
    """What was handed in is no number of an act that can be struck."""


class NoPaper(ArchiveError):
    """What was handed in is no paper that can be asked of."""


class MustStay(ArchiveError):
    """This rule calls the paper to stay."""

    def __init__(self, rule):
        ArchiveError.__init__(self, f"called to stay by rule {rule}")
        self.rule = rule


class Held(ArchiveError):
    """This hold covers the paper."""

    def __init__(self, hold):
        ArchiveError.__init__(self, f"covered by hold {hold}")
        self.hold = hold


class NoLeave(ArchiveError):
    """The paper needs a leave, and none is unused."""


class NoText(ArchiveError):
    """What was handed in isn't the text asked for; the row is where it fails."""

    def __init__(self, row):
        ArchiveError.__init__(self, f"not the text asked for, row {row}")
        self.row = row


class NoCall(ArchiveError):
    """This row is none that the desk takes."""

    def __init__(self, row):
        ArchiveError.__init__(self, "no row that the desk takes")
        self.row = row
