"""Stretches: so many months in a row, by the days that each of them has."""


def lengths_from(calendar, k, many):
    """Tell the lengths of so many months in a row, from month k on."""
    return steps([calendar.start(n) for n in range(k, k + many + 1)])


def days_of(calendar, k, many):
    """Tell how many days so many months in a row have in all, from month k on."""
    return calendar.start(k + many) - calendar.start(k)


def stretches(calendar, many):
    """Tell all unlike lists of lengths of so many months in a row, rising."""
    month = calendar.month
    # Which stretch comes hangs on nothing but the part of the day at which its first moon comes, counted in
    # bottoms of the month; all parts come. It becomes another one, and a greater one, just at those parts at
    # which one of its moons comes with the beginning of a day.
    parts = sorted([(-n * month.top) % month.bottom for n in range(min(many + 1, month.bottom))])
    return [stretch_at(month, part, many) for part in parts]


def stretch_at(month, part, many):
    """Tell the lengths of so many months whose first moon comes at this part of a day."""
    return tuple(steps([(part + n * month.top) // month.bottom for n in range(many + 1)]))


def steps(days):
    """Tell how many days lie from each day to the next one."""
    return [behind - day for day, behind in zip(days, days[1:])]
