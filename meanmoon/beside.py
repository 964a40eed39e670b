"""Two calendars, one beside the other."""

from meanmoon.dates import date_of, day_of
from meanmoon.shares import minus, times
from meanmoon.years import first_day, year_with


def carried(one, two, date):
    """Tell the date that the day of the first calendar's date has in the second; refused as by day_of."""
    return date_of(two, day_of(one, date))


def gap(one, two, years=1):
    """Tell how many days so many years of the first calendar are longer than as many of the second."""
    return times(years, minus(one.year, two.year))


def starts_together(one, two, first, many):
    """Tell the days on which one of so many years of the first calendar begins, and a year of the second."""
    days = [first_day(one, year) for year in range(first, first + many)]
    return [day for day in days if first_day(two, year_with(two, day)) == day]
