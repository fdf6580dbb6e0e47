import itertools
import unittest

from goneday.days import show_day
from goneday.deeds import is_deed
from goneday.deedtexts import read_deed, read_deeds, show_deed, show_deeds
from goneday.errors import NoText
from tests.samples import DEEDS, LONG, NO_PARTS, RULES, busy_deeds, random_deeds

TEXTS = (
    (("paper", 0, "a", "mail", ()), "paper 2000-01-01 a mail"),
    (("paper", 31, "b", "mail", ("a",)), "paper 2000-02-01 b mail a"),
    (("paper", 99999, "abcdefgh", "k", ("a", "aa", "b", "z")), "paper 2273-10-15 abcdefgh k a aa b z"),
    (("happens", 59, "a", "read"), "happens 2000-02-29 a read"),
    (("rule", 0, "r", ("keep", "mail", ("coming",), 0, "days")), "rule 2000-01-01 r keep mail coming 0 days"),
    (("rule", 0, "r", ("keep", "mail", ("first", "read"), 7, "months")), "rule 2000-01-01 r keep mail first:read 7 months"),
    (("rule", 0, "r", ("gone", "mail", ("last", "sent"), 999, "years")), "rule 2000-01-01 r gone mail last:sent 999 years"),
    (("rule", 0, "r", ("gone", "mail", ("coming",), 10, "days")), "rule 2000-01-01 r gone mail coming 10 days"),
    (("rule", 366, "w", ("while", "mail")), "rule 2001-01-01 w while mail"),
    (("rule", 366, "f", ("follow", "mail")), "rule 2001-01-01 f follow mail"),
    (("rule", 366, "n", ("leave", "mail")), "rule 2001-01-01 n leave mail"),
    (("end", 9, "r"), "end 2000-01-10 r"),
    (("hold", 9, "h", ("paper", "a"), False), "hold 2000-01-10 h paper a"),
    (("hold", 9, "h", ("paper", "a"), True), "hold 2000-01-10 h paper a deep"),
    (("hold", 9, "h", ("kind", "mail"), False), "hold 2000-01-10 h kind mail"),
    (("hold", 9, "h", ("kind", "mail"), True), "hold 2000-01-10 h kind mail deep"),
    (("hold", 9, "deep", ("kind", "deep"), True), "hold 2000-01-10 deep kind deep deep"),
    (("hold", 9, "paper", ("paper", "paper"), False), "hold 2000-01-10 paper paper paper"),
    (("paper", 9, "paper", "paper", ("hold", "paper")), "paper 2000-01-10 paper paper hold paper"),
    (("rule", 9, "keep", ("gone", "keep", ("last", "last"), 1, "days")), "rule 2000-01-10 keep gone keep last:last 1 days"),
    (("lift", 9, "h"), "lift 2000-01-10 h"),
    (("leave", 9, "l", "mail"), "leave 2000-01-10 l mail"),
)

NO_DEEDS = (
    "", " ", "a", "paper", "paper 2000-01-01", "paper 2000-01-01 a", "Paper 2000-01-01 a mail", "papers 2000-01-01 a mail",
    "paper a mail", "2000-01-01 a mail", "paper 2000-01-01 A mail", "paper 2000-01-01 a Mail", "paper 2000-01-01 a mail A",
    "paper 2000-01-01 ninesigns mail", "paper 2000-01-01 a ninesigns", "paper 2000-01-01 a mail ninesigns", "paper 2000-01-01 a1 mail",
    "paper 2000-1-01 a mail", "paper 2000-01-1 a mail", "paper 02000-01-01 a mail", "paper 1999-12-31 a mail", "paper 2001-02-29 a mail",
    "paper 2000-13-01 a mail", "paper 2000-00-01 a mail", "paper 2273-10-16 a mail", "paper 9999-12-31 a mail", "paper 0 a mail",
    "paper 20000101 a mail", "paper 2000-01-01- a mail",
    "paper 2000-01-01 c mail b a", "paper 2000-01-01 c mail a a", "paper 2000-01-01 c mail a b d e f", "paper 2000-01-01 c mail a,b",
    "paper 2000-01-01 c mail ()",
    "happens 2000-01-01 a", "happens 2000-01-01 a read read", "happens 2000-01-01 a Read",
    "rule 2000-01-01 r", "rule 2000-01-01 r keep", "rule 2000-01-01 r keep mail", "rule 2000-01-01 r keep mail coming 5",
    "rule 2000-01-01 r keep mail coming 5 days days", "rule 2000-01-01 r keep mail coming 5 day", "rule 2000-01-01 r keep mail coming 5 Days",
    "rule 2000-01-01 r keep mail coming 05 days", "rule 2000-01-01 r keep mail coming 00 days", "rule 2000-01-01 r keep mail coming 000 days",
    "rule 2000-01-01 r keep mail coming 1000 days", "rule 2000-01-01 r keep mail coming -1 days", "rule 2000-01-01 r keep mail coming +1 days",
    "rule 2000-01-01 r keep mail coming  days", "rule 2000-01-01 r keep mail coming 1_0 days", "rule 2000-01-01 r keep mail coming x days",
    "rule 2000-01-01 r keep mail coming 1. days",
    "rule 2000-01-01 r keep mail coming: 5 days", "rule 2000-01-01 r keep mail coming:read 5 days", "rule 2000-01-01 r keep mail first 5 days",
    "rule 2000-01-01 r keep mail first: 5 days", "rule 2000-01-01 r keep mail :read 5 days", "rule 2000-01-01 r keep mail read 5 days",
    "rule 2000-01-01 r keep mail first:read:sent 5 days", "rule 2000-01-01 r keep mail first::read 5 days",
    "rule 2000-01-01 r keep mail first read 5 days", "rule 2000-01-01 r keep mail next:read 5 days", "rule 2000-01-01 r keep mail first:Read 5 days",
    "rule 2000-01-01 r while", "rule 2000-01-01 r while mail mail", "rule 2000-01-01 r while mail coming 5 days", "rule 2000-01-01 r stay mail",
    "rule 2000-01-01 r follow Mail", "rule 2000-01-01 r leave mail x", "rule 2000-01-01 r leave", "rule 2000-01-01 while mail",
    "end 2000-01-01", "end 2000-01-01 r r", "end 2000-01-01 R", "lift 2000-01-01", "lift 2000-01-01 h deep", "lift 2000-01-01 h paper a",
    "hold 2000-01-01 h", "hold 2000-01-01 h paper", "hold 2000-01-01 h a", "hold 2000-01-01 h rule r", "hold 2000-01-01 h paper a deep deep",
    "hold 2000-01-01 h paper a Deep", "hold 2000-01-01 h paper a True", "hold 2000-01-01 h paper a b", "hold 2000-01-01 h deep paper a",
    "hold 2000-01-01 h deep", "hold 2000-01-01 h paper a not", "hold 2000-01-01 h Paper a", "hold 2000-01-01 h paper A",
    "leave 2000-01-01 l", "leave 2000-01-01 l mail mail", "leave 2000-01-01 l MAIL", "gone 2000-01-01 r mail", "enter paper 2000-01-01 a mail",
)

NO_TEXTS = tuple(thing for thing in NO_PARTS if not isinstance(thing, str)) + (0, 1, True, False, DEEDS[0], DEEDS, [TEXTS[0][1]])


class Texts(unittest.TestCase):
    def refused(self, read, text, row=0):
        with self.assertRaises(NoText, msg=repr(text)) as caught:
            read(text)
        self.assertEqual(caught.exception.row, row, repr(text))
        self.assertIs(type(caught.exception.row), int)


class TestDeed(Texts):
    def test_to_the_letter(self):
        for deed, text in TEXTS:
            self.assertTrue(is_deed(deed))
            self.assertEqual(show_deed(deed), text)
            self.assertEqual(read_deed(text), deed)
            self.assertEqual(repr(read_deed(text)), repr(deed))

    def test_every_word_and_form(self):
        self.assertEqual({text.split(" ")[0] for deed, text in TEXTS}, {deed[0] for deed in DEEDS})
        for parts in RULES:
            deed = ("rule", 77, "r", parts)
            self.assertEqual(read_deed(show_deed(deed)), deed)

    def test_each_number_and_since(self):
        sinces = ((("coming",), "coming"), (("first", "a"), "first:a"), (("last", "abcdefgh"), "last:abcdefgh"))
        for word, since, unit, many in itertools.product(("keep", "gone"), sinces, ("days", "months", "years"), (0, 1, 9, 10, 99, 100, 999)):
            deed = ("rule", 1, "r", (word, "k", since[0], many, unit))
            text = f"rule 2000-01-02 r {word} k {since[1]} {many} {unit}"
            self.assertEqual(show_deed(deed), text)
            self.assertEqual(read_deed(text), deed)

    def test_days(self):
        for day in (0, 30, 31, 58, 59, 60, 365, 366, 99998, 99999):
            deed = ("end", day, "r")
            self.assertEqual(show_deed(deed), f"end {show_day(day)} r")
            self.assertEqual(read_deed(show_deed(deed)), deed)

    def test_read_and_shown_again_alike(self):
        for seed in range(40):
            for deed in random_deeds(seed) + busy_deeds(seed, 99999, LONG):
                self.assertEqual(read_deed(show_deed(deed)), deed)

    def test_blanks_and_line_ends(self):
        for deed, text in TEXTS:
            for other in (" " + text, text + " ", text + "\n", "\n" + text, text.replace(" ", "  ", 1), text.replace(" ", "\n", 1),
                          text.replace(" ", "", 1), text[::-1].replace(" ", "  ", 1)[::-1], text[::-1].replace(" ", "\n", 1)[::-1],
                          text + "\n" + text, text.upper(), text[:1].upper() + text[1:], text.replace(" ", "\t", 1)):
                self.refused(read_deed, other)

    def test_a_word_more_or_fewer(self):
        for deed, text in TEXTS:
            words = text.split(" ")
            for place in range(len(words)):
                # Without a maker, or without deep, the rest may still be a deed.
                if place < 2 or len(words) <= {"paper": 4, "hold": 5}.get(words[0], len(words)):
                    self.refused(read_deed, " ".join(words[:place] + words[place + 1:]))
            if words[0] not in ("paper", "hold"):
                self.refused(read_deed, text + " a")
                self.refused(read_deed, text + " deep")

    def test_what_is_no_deed(self):
        for text in NO_DEEDS:
            self.refused(read_deed, text)

    def test_what_is_no_text(self):
        for thing in NO_TEXTS:
            self.refused(read_deed, thing)


class TestDeeds(Texts):
    many = tuple(text for deed, text in TEXTS if deed in (DEEDS[0], ("end", 9, "r"), ("lift", 9, "h"), ("leave", 9, "l", "mail")))

    def test_none(self):
        self.assertEqual(show_deeds(()), "")
        self.assertEqual(read_deeds(""), ())

    def test_one(self):
        for deed, text in TEXTS:
            self.assertEqual(show_deeds((deed,)), text)
            self.assertEqual(read_deeds(text), (deed,))

    def test_many_as_handed_in(self):
        for deeds in (DEEDS, DEEDS[::-1], DEEDS[3:] + DEEDS[:3]):
            text = "\n".join(show_deed(deed) for deed in deeds)
            self.assertEqual(show_deeds(deeds), text)
            self.assertEqual(read_deeds(text), deeds)
            self.assertIs(type(read_deeds(text)), tuple)

    def test_read_and_shown_again_alike(self):
        for seed in range(30):
            deeds = busy_deeds(seed, 99999, LONG)
            self.assertEqual(read_deeds(show_deeds(deeds)), deeds)

    def test_line_ends(self):
        self.assertEqual(len(self.many), 4)
        text = "\n".join(self.many)
        self.assertEqual(len(read_deeds(text)), 4)
        self.refused(read_deeds, text + "\n", 4)
        self.refused(read_deeds, "\n" + text, 0)
        self.refused(read_deeds, text.replace("\n", "\n\n", 1), 1)
        self.refused(read_deeds, text[::-1].replace("\n", "\n\n", 1)[::-1], 3)
        self.refused(read_deeds, text.replace("\n", "\r\n", 1), 0)
        self.refused(read_deeds, text.replace("\n", " \n", 1), 0)
        self.refused(read_deeds, text.replace("\n", "\n ", 1), 1)
        self.refused(read_deeds, text.replace("\n", " ", 1), 0)
        self.refused(read_deeds, "\n", 0)
        self.refused(read_deeds, " ", 0)

    def test_the_first_row_that_is_no_deed(self):
        for text in NO_DEEDS:
            for place in range(5):
                rows = self.many[:place] + (text,) + self.many[place:]
                # An empty text is no deed, but without a row there is none at all.
                self.refused(read_deeds, "\n".join(rows), place)
        self.refused(read_deeds, "\n".join(self.many[:2] + ("a",) + self.many[2:] + ("b",)), 2)

    def test_the_first_row_that_quarrels_with_one_above(self):
        paper, end, lift, leave = self.many
        for other, place in ((paper, 4), (end, 4), ("paper 2010-01-01 a k", 4), ("leave 2010-01-01 l k", 4),
                             ("rule 2000-01-10 r while k", 4), ("hold 2000-01-10 h kind k", 4)):
            self.refused(read_deeds, "\n".join(self.many + (other,)), place)
            self.refused(read_deeds, "\n".join(self.many + (other, "no deed")), place)
            self.refused(read_deeds, "\n".join(self.many + ("no deed", other)), place)
        self.refused(read_deeds, "\n".join((paper, end, end, paper)), 2)
        self.refused(read_deeds, "\n".join((paper, paper)), 1)
        self.assertEqual(len(read_deeds("\n".join(self.many + ("rule 2000-01-11 r while k", "lift 2000-01-11 h")))), 6)

    def test_what_is_no_text(self):
        for thing in NO_TEXTS:
            self.refused(read_deeds, thing)


if __name__ == "__main__":
    unittest.main()
