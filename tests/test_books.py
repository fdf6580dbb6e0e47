"""A walk of drawn acts, and what an archive tells behind each against a plain book that closes day by day."""

import random
import unittest

from goneday.archive import Archive
from goneday.errors import ArchiveError, NoDay
from tests.book import Book
from tests.samples import SHORT, busy_deed, random_deed

REFUSALS = ("Twice", "GoneMaker", "NoNumber", "NoPaper", "MustStay", "Held", "NoLeave")
FIELDS = {"Twice": "number", "GoneMaker": "paper", "MustStay": "rule", "Held": "hold"}


def answer(ask, thing):
    """What an archive answers, a refusal by its name and field."""
    try:
        return ask(thing)
    except ArchiveError as error:
        name = type(error).__name__
        return (name, getattr(error, FIELDS[name])) if name in FIELDS else (name,)


class TestBooks(unittest.TestCase):
    def setUp(self):
        self.met = {}

    def same(self, archive, book):
        """All that is told is the same, and is told again when it is asked again."""
        for turn in range(2):
            self.assertEqual(archive.present(), book.day)
            self.assertEqual(archive.there(), book.there())
            self.assertEqual(archive.done(), book.rows())
            self.assertEqual(archive.wrong(), book.wrong(), book.acts)
        self.assertEqual(archive.known(book.day), book.deeds())

    def same_days(self, archive, book):
        for day in range(book.first, book.day):
            self.assertEqual(archive.known(day), book.ends[day])
        for day in (book.first - 1, book.day + 1, book.day + 500):
            with self.assertRaises(NoDay):
                archive.known(day)

    def both(self, archive, book, word, thing):
        told = answer(getattr(archive, word), thing)
        self.assertEqual(told, getattr(book, word)(thing), (word, thing, book.acts))
        sort = told[0] if isinstance(told, tuple) else word
        self.met[sort] = self.met.get(sort, 0) + 1

    def step(self, archive, book, dice, draw):
        word = dice.choice(("enter",) * 12 + ("strike",) * 2 + ("turn",) * 2 + ("let_go",) * 3)
        entered = [thing for act, thing in book.acts if act == "enter"]
        if word == "enter" and len(entered) < 40:
            # Some were entered already, and are known, struck or let go by now.
            again = entered and dice.random() < 0.2
            self.both(archive, book, word, dice.choice(entered) if again else draw(dice, 24, SHORT))
        if word == "strike":
            self.both(archive, book, word, dice.randint(0, len(book.acts)))
        if word == "turn":
            self.both(archive, book, word, book.day + dice.choice((1, 1, 2, 5)))
        if word == "let_go":
            self.both(archive, book, word, dice.choice(book.there() + tuple("ab")))

    def count(self, book):
        self.met["right"] = self.met.get("right", 0) + len(book.done) - len(book.wrong())
        self.met["wrong"] = self.met.get("wrong", 0) + len(book.wrong())
        self.met["used"] = self.met.get("used", 0) + len([leave for leave in book.used() if leave])

    def walk(self, seed, draw):
        dice = random.Random(seed)
        first = dice.choice((0, 0, 3))
        archive, book = Archive(first), Book(first)
        for turn in range(70):
            self.step(archive, book, dice, draw)
            self.same(archive, book)
            self.count(book)
            if turn % 10 == 9:
                self.same_days(archive, book)

    def test_drawn_acts(self):
        for seed in range(30):
            self.walk(seed, random_deed)

    def test_drawn_acts_by_which_many_papers_go(self):
        for seed in range(60):
            self.walk(seed, busy_deed)
        # The walk says little where hardly anything is met.
        for sort in ("enter", "strike", "turn", "let_go", "right", "wrong", "used") + REFUSALS:
            self.assertGreater(self.met.get(sort, 0), 10, (sort, self.met))


if __name__ == "__main__":
    unittest.main()
