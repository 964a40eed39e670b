"""Calendars for the tests, and what they must tell, reckoned from Python's fractions by going through them."""

from fractions import Fraction
from functools import lru_cache
from math import floor

from meanmoon.calendars import Calendar
from meanmoon.shares import Share


def share(fraction):
    return Share(fraction.numerator, fraction.denominator)


def fraction(told):
    return Fraction(told.top, told.bottom)


# Month, year, moon and mark: by the sky, at the edges of what is refused, with whole marks, and below 0.
PLAIN = (Fraction(59, 2), Fraction(365), Fraction(0), Fraction(0))
KINDS = (
    PLAIN,
    (Fraction(765433, 25920), Fraction(765433 * 235, 25920 * 19), Fraction(1, 3), Fraction(-5, 7)),
    (Fraction(1447, 49), Fraction(146097, 400), Fraction(-29, 2), Fraction(100)),
    (Fraction(30), Fraction(360), Fraction(7, 2), Fraction(1, 2)),
    (Fraction(30), Fraction(389), Fraction(0), Fraction(-1)),
    (Fraction(1), Fraction(12), Fraction(1, 5), Fraction(2, 3)),
    (Fraction(2), Fraction(25), Fraction(-9, 4), Fraction(17, 5)),
    (Fraction(25, 13), Fraction(24), Fraction(3, 7), Fraction(-22, 9)),
    (Fraction(35, 12), Fraction(36), Fraction(0), Fraction(5, 12)),
    (Fraction(29, 2), Fraction(375, 2), Fraction(1000), Fraction(-1000)),
)


def calendar_of(kind):
    month, year, moon, mark = kind
    return Calendar(share(month), share(year), share(moon), share(mark))


def start_by(kind, k):
    month, year, moon, mark = kind
    return floor(moon + k * month)


def mark_day_by(kind, j):
    month, year, moon, mark = kind
    return floor(mark + j * year / 12)


def month_at_by(kind, day, near):
    """Tell the month of a day by going from month to month, beginning at the month near."""
    k = near
    while start_by(kind, k) > day:
        k -= 1
    while start_by(kind, k + 1) <= day:
        k += 1
    return k


def marks_in_by(kind, k, near):
    """Tell the marks that fall in month k by going from mark to mark, beginning at the mark near."""
    j = near
    while mark_day_by(kind, j) >= start_by(kind, k):
        j -= 1
    while mark_day_by(kind, j) < start_by(kind, k):
        j += 1
    marks = []
    while mark_day_by(kind, j) < start_by(kind, k + 1):
        marks.append(j)
        j += 1
    return marks


def month_by(kind, k):
    """Tell of month k the first day, how many days it has, and its name: year, number, odd."""
    month, year, moon, mark = kind
    first = start_by(kind, k)
    near = floor((first - mark) * 12 / year)
    marks = marks_in_by(kind, k, near)
    odd = not marks
    if odd:
        marks = marks_in_by(kind, k - 1, near)
    return first, start_by(kind, k + 1) - first, (marks[0] // 12, marks[0] % 12 + 1, odd)


@lru_cache(maxsize=None)
def year_by(kind, number):
    """Tell the months of a year as month_by does, by going through all that may be of it."""
    month, year, moon, mark = kind
    near = floor((mark + number * year - moon) / month)
    rows = [month_by(kind, k) for k in range(near - 4, near + 18)]
    return [row for row in rows if row[2][0] == number]
