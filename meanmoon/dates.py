"""Dates: a year, the number of one of its months, plain or odd, and a day of this month."""

from meanmoon.calendars import MARKS
from meanmoon.errors import NoDate
from meanmoon.numerals import numeral
from meanmoon.stretches import days_of


class Date:
    """A year, a number, a day and whether the month is odd; whether a calendar has it isn't looked at."""

    def __init__(self, year, number, day, odd=False):
        self.year = year
        self.number = number
        self.day = day
        self.odd = odd

    def __eq__(self, other):
        return (isinstance(other, Date) and self.year == other.year and self.number == other.number
                and self.day == other.day and self.odd == other.odd)

    def __str__(self):
        return f"{numeral(self.year)}-{two_figures(self.number)}{odd_sign(self.odd)}-{two_figures(self.day)}"

    def __repr__(self):
        return f"Date({numeral(self.year)}, {numeral(self.number)}, {numeral(self.day)}, odd={self.odd})"


def two_figures(number):
    """Tell the figures of a whole number from 0 on, two at least."""
    return numeral(number).zfill(2)


def odd_sign(odd):
    """Tell the sign that stands behind what is odd."""
    return "*" if odd else ""


def plain_month(calendar, year, number):
    """Tell the k of the year's plain month of this number."""
    return calendar.month_with(MARKS * year + number - 1)


def odd_month(calendar, year, number):
    """Tell the k of the year's odd month of this number, or None."""
    k = plain_month(calendar, year, number) + 1
    if calendar.mark_in(k) is None:
        return k
    return None


def month_of(calendar, date):
    """Tell the k of a date's month; refused where there is none."""
    if date.number < 1 or date.number > MARKS:
        raise NoDate(date, "number")
    if not date.odd:
        return plain_month(calendar, date.year, date.number)
    k = odd_month(calendar, date.year, date.number)
    if k is None:
        raise NoDate(date, "odd")
    return k


def date_of(calendar, day):
    """Tell the date of a day."""
    k = calendar.month_at(day)
    year, number, odd = calendar.name_of(k)
    return Date(year, number, day - calendar.start(k) + 1, odd)


def day_of(calendar, date):
    """Tell the day of a date; refused where the calendar hasn't this date."""
    k = month_of(calendar, date)
    if date.day < 1 or date.day > days_of(calendar, k, 1):
        raise NoDate(date, "day")
    return day_in(calendar, k, date.day)


def day_in(calendar, k, count):
    """Tell the day that has this count, from 1, in month k."""
    return calendar.start(k) + count - 1


def later(calendar, date, days=0, months=0, years=0):
    """Tell the date so many years, then months, then days behind a date; refused as by day_of."""
    # What it tells isn't needed: it is asked for its refusals.
    day_of(calendar, date)
    k = month_in_year(calendar, date.year + years, date.number, date.odd)
    count = held_in(calendar, k, date.day)
    k = k + months
    count = held_in(calendar, k, count)
    return date_of(calendar, day_in(calendar, k, count) + days)


def month_in_year(calendar, year, number, odd):
    """Tell the k of the year's month of this number: the odd one where it is wished and there, else the plain one."""
    k = odd_month(calendar, year, number) if odd else None
    if k is None:
        return plain_month(calendar, year, number)
    return k


def held_in(calendar, k, count):
    """Tell the count of a day, or that of the last day of month k where this is less."""
    return min(count, days_of(calendar, k, 1))
