"""Feasts: days that come again with each year, and books of them."""

from meanmoon.dates import day_in, held_in, month_in_year, odd_month, plain_month
from meanmoon.errors import NoName, Taken
from meanmoon.years import year_with


class Feast:
    """A name, the number of a month, a day of it, and whether it falls in the plain month, the odd one or both."""

    def __init__(self, name, number, day, when="plain"):
        self.name = name
        self.number = number
        self.day = day
        self.when = when


def feast_months(calendar, feast, year):
    """Tell the k of the months in which a feast falls in a year, rising."""
    if feast.when == "both":
        months = [plain_month(calendar, year, feast.number), odd_month(calendar, year, feast.number)]
        return [k for k in months if k is not None]
    return [month_in_year(calendar, year, feast.number, feast.when == "odd")]


def feast_days(calendar, feast, year):
    """Tell the days on which a feast falls in a year, rising."""
    months = feast_months(calendar, feast, year)
    return [day_in(calendar, k, held_in(calendar, k, feast.day)) for k in months]


class Feasts:
    """A book of feasts by their names, with no feast at first."""

    def __init__(self, calendar):
        self.calendar = calendar
        self.feasts = {}

    def add(self, feast):
        """Put a feast in; refused where one of its name is in."""
        if feast.name in self.feasts:
            raise Taken(feast.name)
        self.feasts[feast.name] = feast

    def drop(self, name):
        """Take the feast of a name out; refused where there is none."""
        self.refuse_missing(name)
        del self.feasts[name]

    def refuse_missing(self, name):
        """Refuse a name of which no feast is in."""
        if name not in self.feasts:
            raise NoName(name)

    def called(self):
        """Tell the names, sorted."""
        return sorted(list(self.feasts))

    def on_day(self, day):
        """Tell the names of the feasts that fall on a day, sorted."""
        return [name for there, name in self.in_year(year_with(self.calendar, day)) if there == day]

    def in_year(self, year):
        """Tell the day and the name of all that fall in a year, sorted."""
        return sorted([(day, name) for name, feast in self.feasts.items()
                       for day in feast_days(self.calendar, feast, year)])

    def next_feast(self, day, name=None):
        """Tell the least day and name whose day isn't ahead of this one, of a told name alone, or None."""
        if name is not None:
            self.refuse_missing(name)
        year = year_with(self.calendar, day)
        # Each feast falls in every year, so that this year and the next one have what is sought.
        rows = self.in_year(year) + self.in_year(year + 1)
        return min([row for row in rows if row[0] >= day and (name is None or row[1] == name)], default=None)
