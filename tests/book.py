"""A plain book that is kept like an archive, day by day and act by act, to hold the archive against."""

from tests.plain import Plain
from tests.samples import sort_of


class Going:
    """A going that was done: of which paper, on which day, with which leave, by hand or not, behind how many acts."""

    def __init__(self, paper, day, leave, by_hand, acts, gone):
        self.paper, self.day, self.leave, self.by_hand = paper, day, leave, by_hand
        self.acts = acts
        self.gone = gone


class Book:
    def __init__(self, day):
        self.first = self.day = day
        self.acts = []
        self.done = []
        self.ends = {}

    def known(self, many=None):
        """Pairs (number, deed) of what is known behind so many acts."""
        known = []
        for number, (word, thing) in enumerate(self.acts[:many]):
            if word == "enter":
                known.append((number, thing))
            else:
                known = [pair for pair in known if pair[0] != thing]
        return known

    def deeds(self, many=None):
        return tuple(deed for number, deed in self.known(many))

    def gone(self):
        return {going.paper: going.day for going in self.done}

    def used(self):
        return [going.leave for going in self.done]

    def enter(self, deed):
        """The number of the act, or the refusal's name and field."""
        for number, known in self.known():
            if sort_of(known) == sort_of(deed):
                return ("Twice", number)
        barring = self.barring(deed) if deed[0] == "paper" else None
        if barring is not None:
            return ("GoneMaker", barring)
        self.acts.append(("enter", deed))
        return len(self.acts) - 1

    def barring(self, coming):
        day, name = coming[1:3]
        if name in self.gone():
            return name
        walk = Plain(self.deeds()).walk(range(day + 1))
        for maker in Plain(self.deeds() + (coming,)).makers(name):
            called = (day, maker) in walk.looks and walk.looks[day, maker][1]
            if walk.gone.get(maker, day + 1) <= day or called or self.gone().get(maker, day + 1) <= day:
                return maker
        return None

    def strike(self, number):
        if number not in [pair[0] for pair in self.known()]:
            return ("NoNumber",)
        self.acts.append(("strike", number))
        return len(self.acts) - 1

    def turn(self, day):
        while self.day < day:
            self.close()
            self.ends[self.day] = self.deeds()
            self.day += 1

    def close(self):
        plain = Plain(self.deeds())
        for paper in plain.order:
            if plain.comings[paper][1] <= self.day and paper not in self.gone():
                staying, going = plain.calls(self.day, paper, self.gone())
                if going and not staying and not plain.holding(self.day, paper):
                    self.go(plain, paper, False)

    def go(self, plain, paper, by_hand):
        """Let a paper go that nothing but a lack of leaves bars."""
        asking = plain.asking(self.day, paper)
        unused = [leave for leave in plain.leaves(self.day, paper) if leave not in self.used()]
        if asking and not unused:
            return ("NoLeave",)
        leave = unused[0] if asking else None
        self.done.append(Going(paper, self.day, leave, by_hand, len(self.acts), self.gone()))
        return None

    def let_go(self, paper):
        plain = Plain(self.deeds())
        if paper not in self.there():
            return ("NoPaper",)
        staying, going = plain.calls(self.day, paper, self.gone())
        if staying:
            return ("MustStay", staying[0][0])
        if plain.holding(self.day, paper):
            return ("Held", plain.holding(self.day, paper)[0])
        return self.go(plain, paper, True)

    def there(self):
        plain = Plain(self.deeds())
        come = [paper for paper in plain.order if plain.comings[paper][1] <= self.day]
        return tuple(paper for paper in come if paper not in self.gone())

    def is_right(self, going, many):
        plain = Plain(self.deeds(many))
        if going.paper not in plain.order or plain.comings[going.paper][1] > going.day:
            return False
        staying, calling = plain.calls(going.day, going.paper, going.gone)
        if staying or plain.holding(going.day, going.paper):
            return False
        if plain.asking(going.day, going.paper) and going.leave not in plain.leaves(going.day, going.paper):
            return False
        return going.by_hand or bool(calling)

    def wrong(self):
        """Each going is judged anew behind every act that came since."""
        rows = []
        for going in self.done:
            judged = [self.is_right(going, many) for many in range(going.acts, len(self.acts) + 1)]
            if not judged[-1]:
                turns = [place for place in range(1, len(judged)) if judged[place - 1] and not judged[place]]
                rows.append((going.paper, going.day, going.acts + turns[-1] - 1))
        return tuple(rows)

    def rows(self):
        return tuple((going.paper, going.day, going.leave) for going in self.done)
