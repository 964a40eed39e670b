"""Shifts: new years that are put off by rules."""

from meanmoon.stretches import steps
from meanmoon.years import first_day, year_with


class Shifted:
    """A calendar whose new years are put off by the rules, one behind the other."""

    def __init__(self, calendar, rules):
        self.calendar = calendar
        self.rules = list(rules)

    def new_year(self, year):
        """Tell the day on which a year begins, put off by the rules."""
        day = first_day(self.calendar, year)
        for rule in self.rules:
            day = day + rule(day)
        return day

    def length_of(self, year):
        """Tell how many days lie from a year's new year to the next one's."""
        return self.new_year(year + 1) - self.new_year(year)

    def year_at(self, day):
        """Tell the year whose new year is the last one not behind the day."""
        year = year_with(self.calendar, day)
        # Rules only put off, and by fewer days than a year has: it is this year or the one ahead of it.
        while self.new_year(year) > day:
            year = year - 1
        return year

    def comes(self, first, many):
        """Tell each length of so many years, with the first of them that has it, rising."""
        lengths = steps([self.new_year(year) for year in range(first, first + many + 1)])
        first_with = {}
        for at, length in enumerate(lengths):
            first_with.setdefault(length, first + at)
        return sorted([(length, year) for length, year in first_with.items()])
