"""Rounds: times behind which whole months and whole years come together, or nearly so."""

from meanmoon.shares import common_multiple, minus, over, times


def whole_round(calendar):
    """Tell the least days that are whole months and whole years, and how many of both they are."""
    month = calendar.month
    year = calendar.year
    # In lowest terms only the multiples of the top are whole days and whole months (or years) at once.
    days = common_multiple(month.top, year.top)
    return (days, days // month.top * month.bottom, days // year.top * year.bottom)


def near_rounds(calendar, most):
    """Tell the years, at most so many, whose nearest months lack less than any for fewer years, with their lack."""
    months_for = nearest_months(over(calendar.year, calendar.month), most)
    return [(years, months, lack(calendar, years, months)) for years, months in months_for.items()]


def lack(calendar, years, months):
    """Tell the time of so many months less that of so many years."""
    return minus(times(months, calendar.month), times(years, calendar.year))


def nearest_months(ratio, most):
    """Tell by rising years, at most so many, the months that are nearer than any for fewer years."""
    # These are the convergents of the continued fraction of how many months a year has.
    one, two = ratio.top, ratio.bottom
    years, months = 0, 1
    fewer_years, fewer_months = 1, 0
    months_for = {}
    while two != 0:
        part = one // two
        years, fewer_years = part * years + fewer_years, years
        months, fewer_months = part * months + fewer_months, months
        if years > most:
            break
        # The first two may be of one year both; then the second is the nearer one, and takes the place.
        months_for[years] = months
        one, two = two, one % two
    return months_for
