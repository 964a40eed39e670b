"""A diary: notes by days, and what was done to them, so that it can be taken back."""

from meanmoon.dates import date_of, day_of
from meanmoon.errors import NoDeed, NoNote
from meanmoon.texts import read_date
from meanmoon.years import year_with


class Diary:
    """The notes of a calendar's days; dates are handed in as texts."""

    def __init__(self, calendar):
        self.calendar = calendar
        # The lists in both are never changed, but others put in their place.
        self.kept = {}
        self.deeds = []

    def note(self, date, text):
        """Put a text behind those of a date."""
        day = self.day_written(date)
        self.remember([day])
        self.kept[day] = self.texts_of(day) + [text]

    def strike(self, date, at):
        """Take the text at a place of a date's out; refused where there is none."""
        day = self.day_written(date)
        texts = self.texts_of(day)
        if at < 0 or at >= len(texts):
            raise NoNote(at)
        self.remember([day])
        self.kept[day] = texts[:at] + texts[at + 1:]

    def moved(self, date, other):
        """Take all texts of a date out, and put them behind another's."""
        day = self.day_written(date)
        target = self.day_written(other)
        self.remember([day, target])
        texts = self.texts_of(day)
        # One behind the other, so that of a date to itself nothing is otherwise.
        self.kept[day] = []
        self.kept[target] = self.texts_of(target) + texts

    def undo(self):
        """Take the last deed back; refused where there is none."""
        if len(self.deeds) == 0:
            raise NoDeed()
        deed = self.deeds.pop()
        for day, texts in deed:
            self.kept[day] = texts

    def notes_on(self, date):
        """Tell the notes of a date."""
        return list(self.texts_of(self.day_written(date)))

    def noted(self, year):
        """Tell the dates of a year that have notes, written, with how many they have, by days."""
        days = [day for day in sorted(list(self.kept)) if year_with(self.calendar, day) == year]
        counted = [(day, len(self.texts_of(day))) for day in days]
        return [(str(date_of(self.calendar, day)), many) for day, many in counted if many > 0]

    def in_all(self):
        """Tell how many notes there are."""
        return sum([len(texts) for texts in self.kept.values()])

    def day_written(self, date):
        """Tell the day of a date's text; refused where it is none, or the calendar hasn't this date."""
        return day_of(self.calendar, read_date(date))

    def texts_of(self, day):
        """Tell the texts that are kept for a day."""
        return self.kept.get(day, [])

    def remember(self, days):
        """Keep the texts of these days as they are ahead of a deed."""
        self.deeds.append([(day, self.texts_of(day)) for day in days])
