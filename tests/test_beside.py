"""Point [24], and of [2], [3] and [4] what speaks of two calendars."""

import unittest
from math import floor

from meanmoon.beside import carried, gap, starts_together
from meanmoon.calendars import Calendar
from meanmoon.dates import Date, date_of, day_of
from meanmoon.errors import NoDate
from meanmoon.rounds import whole_round
from meanmoon.shares import Share, minus, times
from tests.samples import KINDS, calendar_of, share, year_by

FAR = 98765432109876543210


def plain_calendar():
    # The years 0 to 4 begin on the days 0, 354, 708, 1091 and 1445.
    return Calendar(Share(59, 2), 365)


def firsts_by(kind, first, many):
    return [year_by(kind, year)[0][0] for year in range(first, first + many)]


def together_by(one, two, first, many):
    """Tell the days by going through the years of both."""
    days = firsts_by(one, first, many)
    if not days:
        return []
    month, year, moon, mark = two
    low, high = floor((days[0] - mark) / year) - 2, floor((days[-1] - mark) / year) + 3
    other = set(firsts_by(two, low, high - low))
    return [day for day in days if day in other]


class CarriedTest(unittest.TestCase):
    def test_there_and_back(self):
        one, two = plain_calendar(), Calendar(30, 360)
        self.assertEqual(carried(one, two, Date(2, 8, 7, True)), Date(2, 8, 21))
        self.assertEqual(carried(two, one, Date(2, 8, 21)), Date(2, 8, 7, True))
        self.assertEqual(carried(one, one, Date(2, 8, 7, True)), Date(2, 8, 7, True))

    def test_by_keyword(self):
        told = carried(date=Date(0, 1, 1), two=Calendar(30, 360, mark=400), one=plain_calendar())
        self.assertEqual((told, type(told)), (Date(-2, 12, 1), Date))

    def test_every_two_calendars(self):
        calendars = [calendar_of(kind) for kind in KINDS]
        for one in calendars:
            for two in calendars:
                for day in (-FAR, -400, -1, 0, 17, 943, 944, FAR):
                    there = carried(one, two, date_of(one, day))
                    self.assertEqual(there, date_of(two, day))
                    self.assertEqual(carried(two, one, there), date_of(one, day))

    def refused(self, one, two, date):
        with self.assertRaises(NoDate) as caught:
            carried(one, two, date)
        self.assertEqual(caught.exception.date, date)
        return caught.exception.why

    def test_dates_that_the_first_calendar_has_not(self):
        one, two = plain_calendar(), Calendar(30, 360)
        self.assertEqual(self.refused(one, two, Date(0, 13, 1)), "number")
        self.assertEqual(self.refused(one, two, Date(0, 0, 99, True)), "number")
        self.assertEqual(self.refused(one, two, Date(0, 8, 1, True)), "odd")
        self.assertEqual(self.refused(one, two, Date(0, 1, 30)), "day")
        self.assertEqual(self.refused(one, two, Date(0, 1, 0)), "day")
        # It is the first calendar that must have the date, not the second.
        self.assertEqual(carried(two, one, Date(0, 1, 30)), Date(0, 2, 1))
        self.assertEqual(self.refused(two, one, Date(2, 8, 1, True)), "odd")
        self.assertEqual(carried(one, two, Date(2, 8, 1, True)), Date(2, 8, 15))


class GapTest(unittest.TestCase):
    def test_one_year(self):
        one, two = plain_calendar(), Calendar(30, Share(1441, 4))
        self.assertEqual(gap(one, two), Share(19, 4))
        self.assertEqual(gap(two, one), Share(-19, 4))
        self.assertEqual(gap(one, one), Share(0))
        self.assertEqual(gap(one, two, 1), Share(19, 4))

    def test_some_years(self):
        one, two = plain_calendar(), Calendar(30, Share(1441, 4))
        self.assertEqual(gap(one, two, 4), Share(19))
        self.assertEqual(gap(one, two, years=2), Share(19, 2))
        self.assertEqual(gap(one, two, 0), Share(0))
        self.assertEqual(gap(one, two, -4), Share(-19))
        self.assertEqual(gap(one, two, FAR), Share(19 * FAR, 4))

    def test_by_keyword_and_kinds(self):
        told = gap(years=3, two=Calendar(30, 360), one=plain_calendar())
        self.assertEqual((told, type(told)), (Share(15), Share))

    def test_every_two_calendars(self):
        for one in KINDS:
            for two in KINDS:
                for years in (-7, 1, 19, FAR):
                    self.assertEqual(gap(calendar_of(one), calendar_of(two), years), share(years * (one[1] - two[1])))

    def test_moon_mark_and_month_change_nothing(self):
        self.assertEqual(gap(Calendar(30, 365, 7, 9), plain_calendar()), Share(0))

    def test_months_of_twenty_figures(self):
        one = Calendar(Share(FAR - 1, FAR // 30), Share(FAR * 4, FAR // 91))
        two = Calendar(30, Share(FAR, FAR // 360 - 7))
        self.assertEqual(gap(one, two, FAR), times(FAR, minus(one.year, two.year)))


class TogetherTest(unittest.TestCase):
    def test_no_year(self):
        self.assertEqual(starts_together(plain_calendar(), plain_calendar(), 5, 0), [])

    def test_with_itself(self):
        calendar = plain_calendar()
        self.assertEqual(starts_together(calendar, calendar, 0, 1), [0])
        self.assertEqual(starts_together(calendar, calendar, 0, 5), [0, 354, 708, 1091, 1445])
        self.assertEqual(starts_together(calendar, calendar, -1, 2), [-384, 0])
        self.assertEqual(starts_together(calendar, plain_calendar(), FAR, 400), firsts_by(KINDS[0], FAR, 400))

    def test_seldom(self):
        one, two = Calendar(30, 360), Calendar(30, 390 - 1)
        self.assertEqual(starts_together(one, two, 0, 400), together_by(
            (30, 360, 0, 0), (30, 389, 0, 0), 0, 400))
        # Years of 360 and of 372 days begin together each 31 years of the first.
        one, two = Calendar(30, 360), Calendar(31, 372)
        self.assertEqual(starts_together(one, two, 0, 100), [0, 11160, 22320, 33480])
        self.assertEqual(starts_together(one, two, 1, 31), [11160])
        self.assertEqual(starts_together(one, two, 1, 30), [])
        self.assertEqual(starts_together(two, one, 0, 91), [0, 11160, 22320, 33480])
        self.assertEqual(starts_together(two, one, 30, 1), [11160])
        self.assertEqual(starts_together(two, one, 31, 1), [])

    def test_never(self):
        one, two = Calendar(30, 360), Calendar(30, 360, 1, 1)
        self.assertEqual(starts_together(one, two, -200, 400), [])
        self.assertEqual(starts_together(two, one, FAR, 400), [])

    def test_other_numbers_of_years(self):
        # The years of the second have other numbers, but begin on the same days.
        one, two = Calendar(30, 360), Calendar(30, 360, mark=720)
        self.assertEqual(starts_together(one, two, 5, 2), [1800, 2160])

    def test_a_month_begins_but_no_year(self):
        one, two = Calendar(30, 360), Calendar(30, 360, mark=30)
        self.assertEqual(starts_together(one, two, 0, 50), [])

    def test_far_years(self):
        one, two = Calendar(30, 360), Calendar(31, 372)
        days = whole_round(two)[0] * 30
        self.assertEqual(starts_together(one, two, 31 * FAR, 32), [FAR * days, FAR * days + 11160])
        self.assertEqual(starts_together(one, two, 1 - 31 * FAR, 30), [])

    def test_by_keyword_and_kinds(self):
        told = starts_together(many=40, first=-3, two=Calendar(31, 372), one=Calendar(30, 360))
        self.assertEqual((told, type(told)), ([0, 11160], list))

    def test_same_as_by_going_through(self):
        for one in KINDS:
            for two in KINDS:
                for first, many in ((-10, 25), (FAR, 3), (0, 1)):
                    told = starts_together(calendar_of(one), calendar_of(two), first, many)
                    self.assertEqual(told, together_by(one, two, first, many))


class AgainTest(unittest.TestCase):
    def test_what_is_handed_in_stays_and_lists_are_the_askers_own(self):
        one, two, date = plain_calendar(), Calendar(30, 360), Date(2, 8, 7, True)
        first = (carried(one, two, date), gap(one, two, 7), starts_together(one, two, 0, 400))
        starts_together(one, two, 0, 400).clear()
        self.assertEqual((carried(one, two, date), gap(one, two, 7), starts_together(one, two, 0, 400)), first)
        self.assertEqual((repr(one), repr(two)), (repr(plain_calendar()), repr(Calendar(30, 360))))
        self.assertEqual((date, day_of(one, date)), (Date(2, 8, 7, True), 950))


if __name__ == "__main__":
    unittest.main()
