import calendar
import datetime
import random
import unittest

from goneday.days import date_of, day_of, later, read_day, show_day
from goneday.errors import NoDay, NoText

START = datetime.date(2000, 1, 1)
LAST = (datetime.date(9999, 12, 31) - START).days


def number(year, month, day):
    return (datetime.date(year, month, day) - START).days


def later_by_months(day, many):
    date = START + datetime.timedelta(days=day)
    place = date.year * 12 + date.month - 1 + many
    year, month = place // 12, place % 12 + 1
    return number(year, month, min(date.day, calendar.monthrange(year, month)[1]))


class TestDates(unittest.TestCase):
    def test_first_and_last_date(self):
        self.assertEqual(day_of(2000, 1, 1), 0)
        self.assertEqual(date_of(0), (2000, 1, 1))
        self.assertEqual(day_of(9999, 12, 31), 2921939)
        self.assertEqual(date_of(2921939), (9999, 12, 31))

    def test_written_out_days(self):
        self.assertEqual(day_of(2000, 1, 31), 30)
        self.assertEqual(day_of(2000, 2, 1), 31)
        self.assertEqual(day_of(2000, 2, 29), 59)
        self.assertEqual(day_of(2000, 3, 1), 60)
        self.assertEqual(day_of(2000, 12, 31), 365)
        self.assertEqual(day_of(2001, 1, 1), 366)
        self.assertEqual(date_of(99999), (2273, 10, 15))

    def test_every_day_of_the_first_round_of_leap_years(self):
        for day in range(146097 + 800):
            date = START + datetime.timedelta(days=day)
            parts = (date.year, date.month, date.day)
            self.assertEqual(date_of(day), parts)
            self.assertEqual(day_of(*parts), day)

    def test_ends_of_all_months_of_all_years(self):
        for year in range(2000, 10000):
            for month in (1, 2, 3, 12):
                last = calendar.monthrange(year, month)[1]
                day = number(year, month, last)
                self.assertEqual(day_of(year, month, last), day)
                self.assertEqual(date_of(day), (year, month, last))
                with self.assertRaises(NoDay):
                    day_of(year, month, last + 1)

    def test_lengths_of_the_months(self):
        lengths = (31, 28, 31, 30, 31, 30, 31, 31, 30, 31, 30, 31)
        for place, length in enumerate(lengths):
            self.assertEqual(date_of(day_of(2001, place + 1, length)), (2001, place + 1, length))
            with self.assertRaises(NoDay):
                day_of(2001, place + 1, length + 1)

    def test_second_months(self):
        for year in (2000, 2004, 2096, 2104, 2400, 2800, 9996):
            self.assertEqual(day_of(year, 3, 1) - day_of(year, 2, 29), 1)
        for year in (2001, 2002, 2003, 2100, 2200, 2300, 2500, 9900, 9999):
            self.assertEqual(day_of(year, 3, 1) - day_of(year, 2, 28), 1)
            with self.assertRaises(NoDay):
                day_of(year, 2, 29)

    def test_no_dates(self):
        wrong = (
            (2001, 0, 1), (2001, 13, 1), (2001, 1, 0), (2001, 1, 32), (2001, 4, 31),
            (2000, 2, 30), (1999, 12, 31), (1999, 1, 1), (10000, 1, 1), (10000, 12, 31),
            (-1, 1, 1), (-2000, 1, 1), (2001, -1, 1), (2001, -11, 1), (2001, 1, -1), (2001, 1, -30),
            (0, 0, 0), (0, 1, 1), (2001, 100, 1), (2001, 1, 1000),
        )
        for parts in wrong:
            with self.assertRaises(NoDay, msg=parts):
                day_of(*parts)

    def test_truths_and_other_things_are_no_date(self):
        for parts in ((2001, True, 1), (2001, 1, True), (True, 1, 1), ("2001", 1, 1), (2001, None, 1), (2001, 1, [])):
            with self.assertRaises(NoDay, msg=parts):
                day_of(*parts)

    def test_days_without_a_date(self):
        for day in (-1, -366, LAST + 1, LAST + 146097, True, False, None, "0", [], (2000, 1, 1)):
            with self.assertRaises(NoDay, msg=day):
                date_of(day)


class TestLater(unittest.TestCase):
    def test_by_none(self):
        for unit in ("days", "months", "years"):
            for day in (0, 30, 59, 365, 1520, 99999):
                self.assertEqual(later(day, 0, unit), day)

    def test_by_most(self):
        self.assertEqual(later(0, 999, "days"), 999)
        self.assertEqual(later(0, 999, "months"), number(2083, 4, 1))
        self.assertEqual(later(0, 999, "years"), number(2999, 1, 1))
        self.assertEqual(later(99999, 999, "days"), 100998)
        self.assertEqual(later(99999, 999, "months"), number(2357, 1, 15))
        self.assertEqual(later(99999, 999, "years"), number(3272, 10, 15))

    def test_into_a_month_with_fewer_days(self):
        self.assertEqual(later(number(2000, 1, 31), 1, "months"), number(2000, 2, 29))
        self.assertEqual(later(number(2001, 1, 31), 1, "months"), number(2001, 2, 28))
        self.assertEqual(later(number(2001, 1, 29), 1, "months"), number(2001, 2, 28))
        self.assertEqual(later(number(2001, 1, 28), 1, "months"), number(2001, 2, 28))
        self.assertEqual(later(number(2001, 1, 31), 3, "months"), number(2001, 4, 30))
        self.assertEqual(later(number(2001, 1, 31), 2, "months"), number(2001, 3, 31))
        self.assertEqual(later(number(2000, 2, 29), 1, "years"), number(2001, 2, 28))
        self.assertEqual(later(number(2000, 2, 29), 4, "years"), number(2004, 2, 29))
        self.assertEqual(later(number(2000, 2, 29), 100, "years"), number(2100, 2, 28))
        self.assertEqual(later(number(2000, 2, 29), 400, "years"), number(2400, 2, 29))

    def test_over_the_end_of_a_year(self):
        self.assertEqual(later(number(2001, 12, 31), 1, "months"), number(2002, 1, 31))
        self.assertEqual(later(number(2001, 11, 30), 1, "months"), number(2001, 12, 30))
        self.assertEqual(later(number(2001, 12, 31), 2, "months"), number(2002, 2, 28))
        self.assertEqual(later(number(2001, 11, 30), 12, "months"), number(2002, 11, 30))
        self.assertEqual(later(number(2001, 6, 30), 1, "years"), number(2002, 6, 30))

    def test_against_the_calendar(self):
        dice = random.Random(4)
        for turn in range(4000):
            day, many = dice.randint(0, 99999), dice.randint(0, 999)
            self.assertEqual(later(day, many, "days"), day + many)
            self.assertEqual(later(day, many, "months"), later_by_months(day, many))
            self.assertEqual(later(day, many, "years"), later_by_months(day, 12 * many))

    def test_far_days_go_on_alike(self):
        for rounds in (1, 25, 10 ** 12):
            far = rounds * 146097
            for day in (0, 59, 365, 1520, 146096):
                for unit in ("days", "months", "years"):
                    self.assertEqual(later(day + far, 13, unit), later(day, 13, unit) + far)


class TestTexts(unittest.TestCase):
    def test_written_out(self):
        self.assertEqual(show_day(0), "2000-01-01")
        self.assertEqual(show_day(30), "2000-01-31")
        self.assertEqual(show_day(99999), "2273-10-15")
        self.assertEqual(show_day(day_of(2010, 10, 9)), "2010-10-09")
        self.assertEqual(show_day(day_of(2010, 9, 10)), "2010-09-10")

    def test_told_back(self):
        for day in list(range(0, 99999, 7)) + [99998, 99999]:
            text = show_day(day)
            self.assertEqual(text, (START + datetime.timedelta(days=day)).isoformat())
            self.assertEqual(read_day(text), day)

    def test_days_behind_the_last_one_are_written_but_not_read(self):
        self.assertEqual(show_day(100000), "2273-10-16")
        for text in ("2273-10-16", "2273-11-01", "2274-01-01", "9999-12-31"):
            self.refused(text)
        self.assertEqual(read_day("2273-10-15"), 99999)

    def refused(self, text):
        with self.assertRaises(NoText, msg=repr(text)) as caught:
            read_day(text)
        self.assertEqual(caught.exception.row, 0)
        self.assertIs(type(caught.exception.row), int)

    def test_texts_of_no_day(self):
        wrong = (
            "", "2000", "2000-01", "2000-1-01", "2000-01-1", "200-01-01", "20000-01-01", "02000-01-01",
            "2000-001-01", "2000-01-001", "2000-01-01-01", "2000-01-01-", "-2000-01-01", "2000--01-01", "2000-01--1",
            "2000/01/01", "2000 01 01", "2000-01-01 ", " 2000-01-01", "2000-01-01\n", "\n2000-01-01", "2000-01-\n1",
            "2000-01-+1", "2000-+1-01", "+200-01-01", "2000-01- 1", "2000- 1-01", "2000-0a-01", "2_00-01-01",
            "2000-00-01", "2000-13-01", "2000-01-00", "2000-01-32", "2001-02-29", "2100-02-29", "2000-04-31",
            "1999-12-31", "0000-01-01", "0200-01-01", "10000-01-01", "two", "2000-jan-01", "20000101", "--",
            "01-01-2000", "2000-1_-01",
        )
        for text in wrong:
            self.refused(text)

    def test_another_sign_at_any_place(self):
        text = "2000-11-11"
        for place in range(len(text)):
            for sign in [chr(number) for number in range(32, 127)] + ["\n", ""]:
                changed = text[:place] + sign + text[place + 1:]
                if sign not in "0123456789-" or sign == "":
                    self.refused(changed)
                if (sign == "-") != (text[place] == "-"):
                    self.refused(changed)

    def test_what_is_no_text(self):
        for thing in (None, 0, 5, -1, True, False, [], {}, (), ["2000-01-01"], ("2000", "01", "01"), {"2000-01-01": 0}):
            self.refused(thing)


if __name__ == "__main__":
    unittest.main()
