"""Years, looked at as wholes."""

from meanmoon.calendars import MARKS
from meanmoon.dates import odd_sign, plain_month
from meanmoon.numerals import numeral
from meanmoon.stretches import lengths_from


class Year:
    """The months of a calendar's year in order, by their names and lengths."""

    def __init__(self, calendar, number):
        k = plain_month(calendar, number, 1)
        many = months_in(calendar, number)
        self.number = number
        self.first = first_day(calendar, number)
        self.names = [calendar.name_of(n)[1:] for n in range(k, k + many)]
        self.lengths = lengths_from(calendar, k, many)
        self.odd = odd_number(self.names)

    def days_in(self):
        """Tell how many days the year has."""
        return sum(self.lengths)

    def __len__(self):
        return len(self.names)

    def __eq__(self, other):
        return isinstance(other, Year) and self.names == other.names and self.lengths == other.lengths

    def __str__(self):
        return " ".join([numeral(length) + odd_sign(odd) for length, (number, odd) in zip(self.lengths, self.names)])

    def __repr__(self):
        return f"Year({numeral(self.number)})"


def first_day(calendar, year):
    """Tell the first day of a year."""
    return calendar.start(plain_month(calendar, year, 1))


def year_with(calendar, day):
    """Tell the number of the year that has the day."""
    return calendar.name_of(calendar.month_at(day))[0]


def months_in(calendar, year):
    """Tell how many months a year has."""
    return plain_month(calendar, year + 1, 1) - plain_month(calendar, year, 1)


def odd_number(names):
    """Tell the number of the odd one among the names of a year's months, or None."""
    for number, odd in names:
        if odd:
            return number
    return None


def kinds(calendar, first, many):
    """Tell of so many years each one that is unlike all ahead of it, with how many of them are like it."""
    years = [Year(calendar, number) for number in range(first, first + many)]
    unlike = []
    for year in years:
        if year not in unlike:
            unlike.append(year)
    return [(year, years.count(year)) for year in unlike]


def odd_years(calendar, first, many):
    """Tell which of so many years have an odd month."""
    return [year for year in range(first, first + many) if months_in(calendar, year) > MARKS]
