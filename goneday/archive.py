"""The archive: deeds entered and struck in any order, days closed for ever, and papers let go."""

from goneday.acts import (
    by_hand, check_entry, check_strike, check_turn, closed, judged, known_deeds, known_on, there_by, wrong_rows,
)


class Archive:
    """A present day, the acts, what was known on the days closed, the goings done, and which turned out wrong."""

    def __init__(self, day):
        check_turn(None, day)
        self.day = day
        self.acts = []
        self.spans = []
        self.goings = []
        self.late = {}

    def present(self):
        """Tell the present day."""
        return self.day

    def known_now(self):
        """Tell the deeds that are known now, in the order of their acts."""
        return known_deeds(self.acts)

    def take(self, act):
        """Do an act that was found right, and tell its number."""
        number = len(self.acts)
        self.acts.append(act)
        self.late = judged(self.known_now(), self.goings, self.late, number)
        return number

    def enter(self, deed):
        """Enter a deed, a thing of any kind, and tell the act's number."""
        check_entry(self.acts, self.goings, deed)
        return self.take(("enter", deed))

    def strike(self, number):
        """Strike the deed that the act of this number, a thing of any kind, entered, and tell the act's number."""
        check_strike(self.acts, number)
        return self.take(("strike", number))

    def turn(self, day):
        """Close all days ahead of this one, a thing of any kind, which is the present one from now on."""
        check_turn(self.day, day)
        self.goings.extend(closed(self.known_now(), self.day, day - 1, self.goings))
        self.spans.append((self.day, day - 1, len(self.acts)))
        self.day = day

    def let_go(self, paper):
        """Let a paper, a thing of any kind, go by hand on the present day."""
        self.goings.append(by_hand(self.known_now(), self.day, self.goings, paper))

    def known(self, day):
        """Tell the deeds that were known at the end of a closed day, or are known now, in the order of their acts."""
        return known_on(self.acts, self.spans + [(self.day, self.day, len(self.acts))], day)

    def there(self):
        """Tell the known papers that have come by the present day and haven't been let go, in order."""
        return there_by(self.known_now(), self.day, self.goings)

    def done(self):
        """Tell rows (paper, day, leave) of the goings in the order in which they were done."""
        return tuple([row[:3] for row in self.goings])

    def wrong(self):
        """Tell rows (paper, day, act) of the goings that aren't right by what is known now."""
        return wrong_rows(self.goings, self.late)
