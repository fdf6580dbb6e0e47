"""Days, numbered from 0, which is 1 January 2000; their dates and texts."""

from goneday.errors import NoDay, NoText

FIRST_YEAR = 2000
LAST_YEAR = 9999
LAST_WRITTEN = 99999
MONTH_DAYS = (31, 28, 31, 30, 31, 30, 31, 31, 30, 31, 30, 31)
FIGURES = "0123456789"

# After so many years the leap years come round again.
ROUND_YEARS = 400
ROUND_DAYS = 146097


def is_whole(thing):
    """Tell whether a thing of any kind is a whole number."""
    return isinstance(thing, int) and not isinstance(thing, bool)


def is_day(thing):
    """Tell whether a thing of any kind is a day that deeds and texts may tell."""
    return is_whole(thing) and 0 <= thing <= LAST_WRITTEN


def is_leap(year):
    """Tell whether the year's second month has 29 days."""
    return year % 400 == 0 or (year % 4 == 0 and year % 100 != 0)


def month_length(year, month):
    """Tell how many days the month has."""
    if month == 2 and is_leap(year):
        return 29
    return MONTH_DAYS[month - 1]


def leaps_before(year):
    """Tell how many leap years lie ahead of this one, from year 1 on."""
    past = year - 1
    return past // 4 - past // 100 + past // 400


def year_start(year):
    """Tell the number of the year's first day."""
    return 365 * (year - FIRST_YEAR) + leaps_before(year) - leaps_before(FIRST_YEAR)


def year_of(day):
    """Tell the year of the day."""
    year = FIRST_YEAR + day * ROUND_YEARS // ROUND_DAYS
    # The guess is by years of even length, so it may be one off.
    if year_start(year) > day:
        return year - 1
    if year_start(year + 1) <= day:
        return year + 1
    return year


def parts_of(day):
    """Tell year, month and day of a day, also behind the last date."""
    year = year_of(day)
    left = day - year_start(year)
    month = 1
    while left >= month_length(year, month):
        left = left - month_length(year, month)
        month = month + 1
    return (year, month, left + 1)


def number_of(year, month, day):
    """Tell the number of the day with these parts, also behind the last date."""
    before = sum([month_length(year, other) for other in range(1, month)])
    return year_start(year) + before + day - 1


def is_date(year, month, day):
    """Tell whether these things are the parts of a date."""
    if not (is_whole(year) and is_whole(month) and is_whole(day)):
        return False
    if not (FIRST_YEAR <= year <= LAST_YEAR and 1 <= month <= 12):
        return False
    return 1 <= day <= month_length(year, month)


def day_of(year, month, day):
    """Tell the day of a date."""
    if not is_date(year, month, day):
        raise NoDay("no date")
    return number_of(year, month, day)


def date_of(day):
    """Tell the date of a day."""
    if not is_whole(day) or day < 0 or day >= year_start(LAST_YEAR + 1):
        raise NoDay("no day with a date")
    return parts_of(day)


def later(day, many, unit):
    """Tell the day that is so many units later."""
    if unit == "days":
        return day + many
    months = many * 12 if unit == "years" else many
    parts = parts_of(day)
    place = parts[0] * 12 + parts[1] - 1 + months
    year = place // 12
    month = place % 12 + 1
    return number_of(year, month, min(parts[2], month_length(year, month)))


def show_day(day):
    """Write a day."""
    parts = parts_of(day)
    year = str(parts[0])
    month = str(parts[1]).zfill(2)
    number = str(parts[2]).zfill(2)
    return f"{year}-{month}-{number}"


def is_figures(text, length):
    """Tell whether a text is made of so many figures."""
    return len(text) == length and all([sign in FIGURES for sign in text])


def read_day(text):
    """Tell the day of a text."""
    if not isinstance(text, str):
        raise NoText(0)
    words = text.split("-")
    # No day up to the last written one has a year of other than four figures.
    if len(words) != 3 or not is_figures(words[0], 4):
        raise NoText(0)
    if not (is_figures(words[1], 2) and is_figures(words[2], 2)):
        raise NoText(0)
    year = int(words[0])
    month = int(words[1])
    number = int(words[2])
    if not is_date(year, month, number) or not is_day(number_of(year, month, number)):
        raise NoText(0)
    return number_of(year, month, number)
