"""Calendars: months by the mean moon, named by the twelve marks of the mean year."""

from meanmoon.errors import NoCalendar
from meanmoon.shares import Share, as_share, before, minus, over, plus, rounded_up, times, whole

MARKS = 12


class Calendar:
    """A month and a year, with the moments of a first moon and of a first mark."""

    def __init__(self, month, year, moon=None, mark=None):
        refuse_unfit(month, year)
        self.month = as_share(month)
        self.year = as_share(year)
        self.moon = moment_or_nought(moon)
        self.mark = moment_or_nought(mark)

    def start(self, k):
        """Tell the first day of month k."""
        return nth_day(self.moon, self.month, k)

    def month_at(self, day):
        """Tell the k of the month that has the day."""
        # The month is the one ahead of the first that begins behind the day.
        return first_from(self.moon, self.month, day + 1) - 1

    def mark_day(self, j):
        """Tell the day of mark j."""
        return nth_day(self.mark, twelfth(self.year), j)

    def month_with(self, j):
        """Tell the k of the month on one of whose days mark j falls."""
        return self.month_at(self.mark_day(j))

    def mark_in(self, k):
        """Tell the j of the mark that falls in month k, or None."""
        j = first_from(self.mark, twelfth(self.year), self.start(k))
        if self.mark_day(j) < self.start(k + 1):
            return j
        return None

    def name_of(self, k):
        """Tell of month k its year, its number, and whether it is odd."""
        j = self.mark_in(k)
        odd = j is None
        if odd:
            # The refusals see to it that there are never two months without a mark in a row.
            j = self.mark_in(k - 1)
        return (j // MARKS, j % MARKS + 1, odd)

    def __eq__(self, other):
        return isinstance(other, Calendar) and kept_form(self) == kept_form(other)

    def __str__(self):
        return f"month {self.month}\nyear {self.year}\nmoon {self.moon}\nmark {self.mark}"

    def __repr__(self):
        return f"Calendar({self.month!r}, {self.year!r}, {self.moon!r}, {self.mark!r})"


def refuse_unfit(month, year):
    """Refuse a month and a year that make no calendar."""
    if before(month, 1):
        raise NoCalendar("month")
    # The least whole number that isn't less than the month is the only one that needs a look.
    if before(twelfth(year), rounded_up(month)):
        raise NoCalendar("between")
    if before(times(MARKS + 1, month), plus(year, 1)):
        raise NoCalendar("thirteen")


def moment_or_nought(moment):
    """Tell the moment as a Share, nought where none is told."""
    if moment is None:
        return Share(0)
    return as_share(moment)


def twelfth(year):
    """Tell the time from a mark to the next."""
    return over(year, MARKS)


def nth_day(first, step, n):
    """Tell the day on which the moment first + n times step falls."""
    return whole(plus(first, times(n, step)))


def first_from(first, step, day):
    """Tell the least n such that the moment first + n times step isn't ahead of the day."""
    return rounded_up(over(minus(day, first), step))


def kept_form(calendar):
    """Tell month, year, and the least moon and mark that lead to the same days."""
    month = calendar.month
    moon = least_alike(calendar.moon, month)
    # Moons that are whole months apart lead to the same months, marks apart to another count of the marks.
    first_moon = minus(moon, times(whole(over(moon, month)), month))
    mark = least_alike(calendar.mark, twelfth(calendar.year))
    return (month, calendar.year, first_moon, mark)


def least_alike(first, step):
    """Tell the least moment from which all steps lead to the same days as from the first."""
    # The steps reach every part of a day that the step's bottom makes, and no finer one.
    return over(whole(times(first, step.bottom)), step.bottom)
