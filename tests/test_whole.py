"""Points [1] to [4] over the whole program: what hangs on several modules at once."""

import unittest

from meanmoon.beside import carried, gap, starts_together
from meanmoon.calendars import Calendar, kept_form
from meanmoon.dates import Date, date_of, day_of, later
from meanmoon.diary import Diary
from meanmoon.feasts import Feast, Feasts, feast_days
from meanmoon.rounds import near_rounds, whole_round
from meanmoon.shares import Share, minus, over, plus, times
from meanmoon.shifts import Shifted
from meanmoon.stretches import days_of, stretches
from meanmoon.texts import figures, read_calendar, read_date, read_figures, read_share
from meanmoon.wheels import Wheel, meet, meet_round
from meanmoon.years import Year, odd_years
from tests.cases import EqualCase
from tests.samples import KINDS, calendar_of

FAR = 98765432109876543210
CALENDARS = [calendar_of(kind) for kind in KINDS]


class DatesTest(unittest.TestCase):
    def test_each_day_has_one_date_and_it_is_read_back(self):
        for calendar in CALENDARS:
            for base in (-FAR, 0, FAR):
                days = range(base - 450, base + 450)
                texts = [str(date_of(calendar, day)) for day in days]
                self.assertEqual(len(set(texts)), len(texts))
                self.assertEqual([day_of(calendar, read_date(text)) for text in texts], list(days))

    def test_the_days_of_a_year_are_those_of_its_number(self):
        for calendar in CALENDARS:
            for number in (-FAR, -1, 0, 1, FAR):
                year = Year(calendar, number)
                dates = [date_of(calendar, day) for day in range(year.first - 1, year.first + year.days_in() + 1)]
                self.assertEqual([date.year for date in dates],
                                 [number - 1] + [number] * year.days_in() + [number + 1])

    def test_a_read_calendar_tells_the_same(self):
        for calendar in CALENDARS:
            told = read_calendar(str(calendar))
            self.assertEqual(told, calendar)
            self.assertEqual([date_of(told, day) for day in range(-40, 40)],
                             [date_of(calendar, day) for day in range(-40, 40)])

    def test_the_kept_form_makes_a_calendar_that_is_alike(self):
        for calendar in CALENDARS:
            again = Calendar(*kept_form(calendar))
            self.assertEqual(again, calendar)
            for day in (-FAR, -77, 0, 940, FAR):
                self.assertEqual(carried(calendar, again, date_of(calendar, day)), date_of(calendar, day))
            self.assertEqual(starts_together(calendar, again, 0, 9), [Year(calendar, year).first for year in range(9)])

    def test_the_whole_comes_again(self):
        for calendar in CALENDARS:
            days, months, years = whole_round(calendar)
            for day in (-FAR, -3, 0, FAR):
                date = date_of(calendar, day)
                again = Date(date.year + years, date.number, date.day, date.odd)
                self.assertEqual(date_of(calendar, day + days), again)
                self.assertEqual(later(calendar, date, years=years), again)
            self.assertEqual(days_of(calendar, 0, months), days)
            self.assertEqual(Year(calendar, 3), Year(calendar, 3 + years))
            self.assertEqual(near_rounds(calendar, years)[-1][2], Share(0))

    def test_two_stretches_differ_by_a_day_at_most(self):
        for calendar in CALENDARS:
            for many in (1, 2, 7, 30):
                told = stretches(calendar, many)
                self.assertEqual(len(told), min(many + 1, calendar.month.bottom))
                self.assertLessEqual(max(map(sum, told)) - min(map(sum, told)), 1)
                days = {days_of(calendar, k, many) for k in (*range(-50, 50), -FAR, FAR)}
                self.assertLessEqual(days, set(map(sum, told)))

    def test_thirteen_months_just_where_one_is_odd(self):
        for calendar in CALENDARS:
            odd = odd_years(calendar, -30, 60)
            for number in range(-30, 30):
                year = Year(calendar, number)
                self.assertEqual((len(year), year.odd is None), (13, False) if number in odd else (12, True))


class ToldAgainTest(unittest.TestCase):
    """What was told may be handed in again, though it has more figures than what is handed in at first."""

    def test_long_numbers(self):
        calendar = Calendar(Share(29530588853123456789, 10 ** 18), Share(36524218967012345679, 10 ** 17), Share(1, 3))
        days, months, years = whole_round(calendar)
        self.assertEqual(date_of(calendar, days * years), Date(years * years, *self.rest_of(date_of(calendar, 0))))
        self.assertEqual(read_figures(figures(days * years)), days * years)
        lack = near_rounds(calendar, FAR)[-1][2]
        self.assertEqual(read_share(str(over(lack, days))), over(lack, days))
        diary = Diary(calendar)
        diary.note(str(date_of(calendar, days)), "again")
        self.assertEqual(diary.noted(years + date_of(calendar, 0).year), [(str(date_of(calendar, days)), 1)])

    def rest_of(self, date):
        # Day 0 is of year 0 here, so that its year is left out.
        self.assertEqual(date.year, 0)
        return date.number, date.day, date.odd

    def test_rounds_of_wheels(self):
        wheels = [Wheel([f"n{number}" for number in range(many)], many) for many in range(40, 61)]
        days = meet_round(wheels)
        wants = [wheel.name_on(FAR) for wheel in wheels]
        self.assertEqual(meet(wheels, wants, FAR + days * days), FAR + days * days)
        self.assertEqual([wheel.next_named(days * FAR, wheel.names[0]) for wheel in wheels][-1], days * FAR)

    def test_gaps(self):
        one, two = CALENDARS[1], CALENDARS[2]
        told = gap(one, two, FAR)
        self.assertEqual(plus(told, gap(two, one, FAR)), Share(0))
        self.assertEqual(over(told, FAR), minus(one.year, two.year))
        self.assertEqual(times(told, over(1, told)), Share(1))


class FarTest(unittest.TestCase):
    def test_feasts_new_years_and_notes_far_off(self):
        for calendar in CALENDARS:
            shifted = Shifted(calendar, [lambda day: day % 3])
            book = Feasts(calendar)
            book.add(Feast("first", 1, 1))
            diary = Diary(calendar)
            for year in (-FAR, FAR):
                first = Year(calendar, year).first
                self.assertEqual(shifted.new_year(year), first + first % 3)
                self.assertEqual(feast_days(calendar, Feast("x", 1, 1, "both"), year)[0], first)
                self.assertEqual(book.next_feast(first), (first, "first"))
                diary.note(f"{year}-01-01", "far")
                self.assertEqual(diary.noted(year), [(f"{year}-01-01", 1)])


class NeverEqualTest(EqualCase):
    def test_things_of_unlike_kinds(self):
        calendar = Calendar(30, 360)
        things = [Share(3), calendar, Date(0, 1, 1), Year(calendar, 0), Wheel(["a"]), Feast("a", 1, 1),
                  Feasts(calendar), Diary(calendar), Shifted(calendar, []), 3, "a", ["a"], ("a",), None, True,
                  kept_form(calendar), str(calendar), "3", "0-01-01", 3.0]
        for at, one in enumerate(things[:5]):
            self.alike(one, one)
            for two in things[:at] + things[at + 1:]:
                self.unlike(one, two)


if __name__ == "__main__":
    unittest.main()
