"""Point [12]."""

import unittest

from meanmoon.calendars import Calendar
from meanmoon.dates import Date, date_of, day_of, later
from meanmoon.errors import NoDate
from meanmoon.shares import Share
from tests.samples import KINDS, calendar_of, month_by

FAR = 98765432109876543210


def plain_calendar():
    # Months of even numbers have 30 days in year 0 and 29 in year 3. Of the years from -6 to 53 just -6, 2, 45
    # and 53 have an odd month behind month 8: of 30, 29, 29 and 30 days.
    return Calendar(Share(59, 2), 365)


def later_by(rows, date, days, months, years):
    """Tell what later must, from the rows of all months about."""
    names = [name for first, length, name in rows]
    at = names.index((date.year + years, date.number, False))
    if date.odd and (date.year + years, date.number, True) in names:
        at += 1
    count = min(date.day, rows[at][1])
    at += months
    count = min(count, rows[at][1])
    day = rows[at][0] + count - 1 + days
    for first, length, name in rows:
        if first <= day < first + length:
            return Date(name[0], name[1], day - first + 1, name[2])


class LaterTest(unittest.TestCase):
    def check(self, date, due, **so_many):
        calendar = plain_calendar()
        self.assertEqual(str(later(calendar, date, **so_many)), due)

    def test_nothing_on(self):
        for date in (Date(0, 1, 1), Date(2, 8, 29, True), Date(-1, 12, 30, True), Date(0, 2, 30)):
            self.check(date, str(date))
            self.check(date, str(date), days=0, months=0, years=0)

    def test_days(self):
        self.check(Date(0, 1, 29), "0-02-01", days=1)
        self.check(Date(0, 1, 1), "-1-12*-30", days=-1)
        self.check(Date(2, 8, 30), "2-08*-01", days=1)
        self.check(Date(2, 8, 29, True), "2-09-01", days=1)
        self.check(Date(2, 8, 30), "3-01-01", days=148)
        self.check(Date(0, 1, 1), "270590224958565871-10-25", days=FAR)
        self.check(Date(0, 1, 1), "-270590224958565872-04-07", days=-FAR)

    def test_months(self):
        self.check(Date(0, 1, 5), "0-02-05", months=1)
        self.check(Date(0, 1, 5), "-1-12*-05", months=-1)
        self.check(Date(2, 8, 5), "2-08*-05", months=1)
        self.check(Date(2, 8, 5), "2-09-05", months=2)
        self.check(Date(2, 9, 5), "2-08*-05", months=-1)
        self.check(Date(2, 8, 5, True), "2-08-05", months=-1)
        self.check(Date(2, 7, 5), "3-07-05", months=13)

    def test_years(self):
        self.check(Date(0, 1, 5), "3-01-05", years=3)
        self.check(Date(3, 1, 5), "0-01-05", years=-3)
        self.check(Date(0, 1, 5), "-1-01-05", years=-1)
        self.check(Date(0, 8, 5), "2-08-05", years=2)
        self.check(Date(0, 9, 5), "2-09-05", years=2)
        self.check(Date(0, 1, 5), "98765432109876543210-01-05", years=FAR)
        self.check(Date(0, 1, 5), "-98765432109876543210-01-05", years=-FAR)

    def test_the_last_day_into_a_shorter_month(self):
        self.check(Date(0, 2, 30), "3-02-29", years=3)
        self.check(Date(0, 2, 30), "0-03-29", months=1)
        self.check(Date(0, 2, 30), "0-04-30", months=2)
        self.check(Date(0, 2, 29), "0-03-29", months=1)
        self.check(Date(0, 1, 29), "0-02-29", months=1)

    def test_held_behind_the_years_and_again_behind_the_months(self):
        # Behind the years it is day 29, and stays so in a month of 30 days.
        self.check(Date(0, 2, 30), "3-03-29", years=3, months=1)
        self.check(Date(0, 2, 30), "3-03-30", years=3, months=1, days=1)
        # Behind the years it is day 30 yet, and held only behind the months.
        self.check(Date(0, 2, 30), "2-03-29", years=2, months=1)
        self.check(Date(0, 2, 30), "2-04-01", years=2, months=1, days=1)
        # Back where it came from the day isn't the same.
        self.check(Date(0, 2, 30), "0-02-29", years=3, months=-37)

    def test_an_odd_month_into_one_of_its_number(self):
        self.check(Date(2, 8, 7, True), "45-08*-07", years=43)
        self.check(Date(2, 8, 29, True), "-6-08*-29", years=-8)
        self.check(Date(-6, 8, 30, True), "2-08*-29", years=8)
        self.check(Date(-6, 8, 30, True), "53-08*-30", years=59)
        self.check(Date(-6, 8, 30, True), "53-09-29", years=59, months=1)

    def test_an_odd_month_into_a_year_without_one_of_its_number(self):
        self.check(Date(2, 8, 7, True), "3-08-07", years=1)
        # Year 5 has an odd month, behind another one.
        self.check(Date(2, 8, 7, True), "5-08-07", years=3)
        self.check(Date(-6, 8, 30, True), "3-08-29", years=9)
        self.check(Date(2, 8, 7, True), "3-09-07", years=1, months=1)

    def test_a_plain_month_stays_plain(self):
        self.check(Date(0, 8, 7), "2-08-07", years=2)
        self.check(Date(2, 8, 7), "45-08-07", years=43)

    def test_together(self):
        self.check(Date(0, 1, 1), "2-08*-01", years=2, months=8)
        self.check(Date(0, 1, 1), "2-08-30", years=2, months=8, days=-1)
        self.check(Date(3, 1, 1), "2-08*-02", years=-3, months=32, days=1)
        self.check(Date(0, 1, 1), "-1-12*-02", years=1, months=-13, days=1)

    def test_by_place(self):
        calendar = plain_calendar()
        self.assertEqual(later(calendar, Date(0, 1, 1), 1, 8, 2), Date(2, 8, 2, True))
        self.assertEqual(later(calendar, Date(0, 1, 1), 5), Date(0, 1, 6))
        self.assertEqual(later(calendar, Date(0, 1, 1), 5, 1), Date(0, 2, 6))
        self.assertEqual(later(years=2, months=8, days=1, date=Date(0, 1, 1), calendar=calendar), Date(2, 8, 2, True))

    def test_same_as_by_going_through(self):
        for kind in KINDS:
            calendar = calendar_of(kind)
            rows = [month_by(kind, k) for k in range(-120, 120)]
            for at in range(80, 160, 3):
                first, length, (year, number, odd) = rows[at]
                for count in (1, length):
                    date = Date(year, number, count, odd)
                    for days, months, years in ((0, 0, 1), (0, 0, -2), (0, 1, 0), (0, -15, 0), (9, 0, 0), (-40, 0, 0),
                                                (1, 1, 1), (-1, 13, -1), (17, -7, 3), (0, 14, -3), (-3, -1, -3)):
                        self.assertEqual(later(calendar, date, days, months, years),
                                         later_by(rows, date, days, months, years), (kind, date))

    def test_many_figures(self):
        for kind in KINDS:
            calendar = calendar_of(kind)
            date = date_of(calendar, 5)
            for so_many in (-FAR, -10 ** 6, 10 ** 6, FAR):
                self.assertEqual(day_of(calendar, later(calendar, date, days=so_many)), 5 + so_many)
                k = calendar.month_at(5) + so_many
                first, length, (year, number, odd) = month_by(kind, k)
                self.assertEqual(later(calendar, date, months=so_many),
                                 Date(year, number, min(date.day, length), odd))
                on = later(calendar, Date(date.year, date.number, 1), years=so_many)
                self.assertEqual(on, Date(date.year + so_many, date.number, 1))
                together = later(calendar, Date(date.year, date.number, 1), so_many, -so_many, so_many)
                k = calendar.month_at(day_of(calendar, on)) - so_many
                self.assertEqual(together, date_of(calendar, calendar.start(k) + so_many))

    def test_an_odd_month_far_off(self):
        # Year 98765432109876543210 has an odd month 8 of 30 days, the year behind it none.
        self.check(Date(2, 8, 29, True), f"{FAR}-08*-29", years=FAR - 2)
        self.check(Date(2, 8, 29, True), f"{FAR + 1}-08-29", years=FAR - 1)
        self.check(Date(FAR, 8, 30, True), "2-08*-29", years=2 - FAR)


class RefusedTest(unittest.TestCase):
    def test_as_by_day_of(self):
        calendar = plain_calendar()
        for date, why in ((Date(0, 13, 0, True), "number"), (Date(0, 0, 1), "number"), (Date(0, -1, 1), "number"),
                          (Date(0, 8, 0, True), "odd"), (Date(0, 8, 1, True), "odd"), (Date(0, 1, 30), "day"),
                          (Date(0, 1, 0), "day"), (Date(2, 8, 30, True), "day"), (Date(2, 8, -1, True), "day")):
            for so_many in ({}, {"years": 2}, {"months": 1}, {"days": 1}, {"days": -FAR, "months": 1, "years": -2}):
                with self.assertRaises(NoDate) as caught:
                    later(calendar, date, **so_many)
                self.assertEqual(caught.exception.why, why)
                self.assertIs(caught.exception.date, date)

    def test_the_date_stays(self):
        calendar = plain_calendar()
        date = Date(-6, 8, 30, True)
        first = later(calendar, date, 1, 2, 3)
        self.assertEqual(later(calendar, date, 1, 2, 3), first)
        same = later(calendar, date)
        same.day = 5
        self.assertEqual(repr(date), "Date(-6, 8, 30, odd=True)")
        self.assertEqual(repr(calendar), repr(plain_calendar()))


if __name__ == "__main__":
    unittest.main()
