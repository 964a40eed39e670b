"""Points [10] and [11], and of [2], [3] and [4] what speaks of dates."""

import unittest

from meanmoon.calendars import Calendar
from meanmoon.dates import Date, date_of, day_of
from meanmoon.errors import NoDate
from meanmoon.shares import Share
from tests.samples import KINDS, calendar_of, month_by

FAR = 98765432109876543210


def fields(date):
    return (date.year, date.number, date.day, date.odd)


def plain_calendar():
    # Year 2 has the days 708 to 1090, and behind its month 8 an odd one with the days 944 to 972.
    return Calendar(Share(59, 2), 365)


class MadeTest(unittest.TestCase):
    def test_odd_not_told(self):
        self.assertEqual(fields(Date(7, 5, 9)), (7, 5, 9, False))
        self.assertEqual(fields(Date(year=7, number=5, day=9)), (7, 5, 9, False))
        self.assertIs(Date(7, 5, 9).odd, False)

    def test_odd_told(self):
        self.assertEqual(fields(Date(7, 5, 9, True)), (7, 5, 9, True))
        self.assertEqual(fields(Date(7, 5, 9, False)), (7, 5, 9, False))
        self.assertEqual(fields(Date(7, 5, 9, odd=True)), (7, 5, 9, True))
        self.assertEqual(fields(Date(odd=True, day=9, number=5, year=7)), (7, 5, 9, True))

    def test_nothing_is_looked_at(self):
        for parts in ((0, 0, 0, False), (-FAR, 13, 99, True), (FAR, -FAR, FAR, False), (1, 5, -1, True)):
            self.assertEqual(fields(Date(*parts)), parts)


class EqualTest(unittest.TestCase):
    def test_all_four_the_same(self):
        self.assertIs(Date(7, 5, 9, True) == Date(7, 5, 9, True), True)
        self.assertIs(Date(7, 5, 9) == Date(7, 5, 9, odd=False), True)
        self.assertIs(Date(-FAR, 5, 9) == Date(-FAR, 5, 9), True)
        self.assertIs(Date(7, 5, 9) != Date(7, 5, 9), False)

    def test_just_one_is_other(self):
        date = Date(7, 5, 9)
        for other in (Date(8, 5, 9), Date(-7, 5, 9), Date(7, 6, 9), Date(7, 5, 10), Date(7, 5, 9, True),
                      Date(5, 7, 9), Date(7, 9, 5)):
            self.assertIs(date == other, False)
            self.assertIs(other == date, False)
            self.assertIs(date != other, True)

    def test_never_a_thing_of_another_kind(self):
        date = Date(7, 5, 9)
        for other in ((7, 5, 9, False), (7, 5, 9), [7, 5, 9, False], "7-05-09", repr(date), None, 7, Date, Share(7)):
            self.assertIs(date == other, False)
            self.assertIs(other == date, False)
            self.assertIs(date != other, True)


class WrittenTest(unittest.TestCase):
    def test_str(self):
        self.assertEqual(str(Date(7, 5, 9, True)), "7-05*-09")
        self.assertEqual(str(Date(7, 5, 9)), "7-05-09")
        self.assertEqual(str(Date(-3, 11, 30)), "-3-11-30")
        self.assertEqual(str(Date(-3, 11, 30, True)), "-3-11*-30")

    def test_str_of_nought(self):
        self.assertEqual(str(Date(0, 0, 0)), "0-00-00")
        self.assertEqual(str(Date(0, 0, 0, True)), "0-00*-00")

    def test_str_of_one_two_and_more_figures(self):
        self.assertEqual(str(Date(12, 10, 1)), "12-10-01")
        self.assertEqual(str(Date(1, 9, 10)), "1-09-10")
        self.assertEqual(str(Date(2026, 99, 100)), "2026-99-100")
        self.assertEqual(str(Date(2026, 100, 99, True)), "2026-100*-99")
        self.assertEqual(str(Date(1, FAR, FAR, True)), f"1-{FAR}*-{FAR}")

    def test_str_of_far_years(self):
        self.assertEqual(str(Date(FAR, 1, 2)), "98765432109876543210-01-02")
        self.assertEqual(str(Date(-FAR, 1, 2, True)), "-98765432109876543210-01*-02")

    def test_repr(self):
        self.assertEqual(repr(Date(7, 5, 9, True)), "Date(7, 5, 9, odd=True)")
        self.assertEqual(repr(Date(-3, 11, 30)), "Date(-3, 11, 30, odd=False)")
        self.assertEqual(repr(Date(0, -1, -20)), "Date(0, -1, -20, odd=False)")
        self.assertEqual(repr([Date(-FAR, 12, 1)]), "[Date(-98765432109876543210, 12, 1, odd=False)]")


class DateOfTest(unittest.TestCase):
    def test_about_a_new_month(self):
        calendar = plain_calendar()
        due = {0: "0-01-01", 1: "0-01-02", 28: "0-01-29", 29: "0-02-01", 58: "0-02-30", 59: "0-03-01"}
        self.assertEqual({day: str(date_of(calendar, day)) for day in due}, due)

    def test_about_a_new_year(self):
        calendar = plain_calendar()
        due = {707: "1-12-30", 708: "2-01-01", 1090: "2-12-29", 1091: "3-01-01"}
        self.assertEqual({day: str(date_of(calendar, day)) for day in due}, due)

    def test_about_an_odd_month(self):
        calendar = plain_calendar()
        due = {943: "2-08-30", 944: "2-08*-01", 972: "2-08*-29", 973: "2-09-01"}
        self.assertEqual({day: str(date_of(calendar, day)) for day in due}, due)

    def test_below_nought(self):
        calendar = plain_calendar()
        due = {-1: "-1-12*-30", -30: "-1-12*-01", -31: "-1-12-29", -384: "-1-01-01", -385: "-2-12-29"}
        self.assertEqual({day: str(date_of(calendar, day)) for day in due}, due)

    def test_twenty_figures(self):
        calendar = plain_calendar()
        self.assertEqual(date_of(calendar, FAR), Date(270590224958565871, 10, 25))
        self.assertEqual(date_of(calendar, -FAR), Date(-270590224958565872, 4, 7))

    def test_keywords_and_kinds(self):
        date = date_of(day=944, calendar=plain_calendar())
        self.assertIs(type(date), Date)
        self.assertIs(type(date.odd), bool)
        self.assertEqual(date, Date(2, 8, 1, True))

    def test_same_as_by_going_through(self):
        for kind in KINDS:
            calendar = calendar_of(kind)
            for base in (0, -FAR, FAR):
                near = calendar.month_at(base)
                for k in range(near - 30, near + 30):
                    first, length, (year, number, odd) = month_by(kind, k)
                    for count in range(1, length + 1):
                        date = date_of(calendar, first + count - 1)
                        self.assertEqual(fields(date), (year, number, count, odd), (kind, k))
                        self.assertEqual(day_of(calendar, date), first + count - 1)


class DayOfTest(unittest.TestCase):
    def test_days(self):
        calendar = plain_calendar()
        for day, date in ((0, Date(0, 1, 1)), (28, Date(0, 1, 29)), (58, Date(0, 2, 30)), (944, Date(2, 8, 1, True)),
                          (972, Date(2, 8, 29, odd=True)), (973, Date(2, 9, 1)), (-1, Date(-1, 12, 30, True)),
                          (-384, Date(-1, 1, 1)), (36049382720104938271627, Date(FAR, 1, 1))):
            self.assertEqual(day_of(calendar, date), day)
        self.assertEqual(day_of(date=Date(2, 8, 29, True), calendar=calendar), 972)
        self.assertIs(type(day_of(calendar, Date(0, 1, 1))), int)

    def test_forth_and_back(self):
        for kind in KINDS:
            calendar = calendar_of(kind)
            for base in (-FAR, -1000, 0, 1000, FAR):
                for day in range(base, base + 100):
                    self.assertEqual(day_of(calendar, date_of(calendar, day)), day)

    def test_each_date_comes_once(self):
        for kind in KINDS:
            calendar = calendar_of(kind)
            told = {str(date_of(calendar, day)) for day in range(-800, 800)}
            self.assertEqual(len(told), 1600)

    def test_shares_of_twenty_figures(self):
        month = Share(FAR * 3 // 10, FAR // 100 + 7)
        calendar = Calendar(month, 370, Share(FAR, FAR - 1), Share(1 - FAR, FAR))
        for base in (-FAR, 0, FAR):
            for day in range(base, base + 60):
                self.assertEqual(day_of(calendar, date_of(calendar, day)), day)

    def test_a_month_of_one_day(self):
        calendar = Calendar(1, 12, 5, 7)
        self.assertEqual([str(date_of(calendar, day)) for day in (6, 7, 8, 18, 19)],
                         ["-1-12-01", "0-01-01", "0-02-01", "0-12-01", "1-01-01"])
        self.assertEqual(day_of(calendar, Date(0, 12, 1)), 18)


class RefusedTest(unittest.TestCase):
    def why(self, date):
        parts = fields(date)
        with self.assertRaises(NoDate) as caught:
            day_of(plain_calendar(), date)
        self.assertIs(caught.exception.date, date)
        self.assertEqual(fields(date), parts)
        self.assertIsInstance(caught.exception, LookupError)
        return caught.exception.why

    def test_number(self):
        for number in (0, 13, -1, -8, FAR, -FAR):
            self.assertEqual(self.why(Date(2, number, 1)), "number")
            self.assertEqual(self.why(Date(2, number, 1, True)), "number")
        for number in (1, 12):
            day_of(plain_calendar(), Date(2, number, 1))

    def test_odd(self):
        day_of(plain_calendar(), Date(2, 8, 1, True))
        for number in (1, 2, 3, 4, 5, 6, 7, 9, 10, 11, 12):
            self.assertEqual(self.why(Date(2, number, 1, True)), "odd")
        for number in range(1, 13):
            self.assertEqual(self.why(Date(0, number, 1, True)), "odd")
        self.assertEqual(self.why(Date(FAR + 1, 8, 1, True)), "odd")
        self.assertEqual(self.why(Date(-FAR, 8, 1, True)), "odd")

    def test_odd_just_where_the_year_has_one_of_this_number(self):
        for kind in KINDS:
            calendar = calendar_of(kind)
            names = [month_by(kind, k)[2] for k in range(-60, 120)]
            for year in range(names[0][0] + 1, names[-1][0]):
                for number in range(1, 13):
                    told = True
                    try:
                        day_of(calendar, Date(year, number, 1, True))
                    except NoDate as refusal:
                        self.assertEqual(refusal.why, "odd")
                        told = False
                    self.assertIs(told, (year, number, True) in names, (kind, year, number))

    def test_day(self):
        for day in (0, -1, -30, FAR, -FAR, 31):
            self.assertEqual(self.why(Date(2, 8, day)), "day")
            self.assertEqual(self.why(Date(2, 8, day, True)), "day")
        # The odd month has 29 days, and the plain one of its number 30.
        day_of(plain_calendar(), Date(2, 8, 30))
        self.assertEqual(self.why(Date(2, 8, 30, True)), "day")
        self.assertEqual(self.why(Date(0, 1, 30)), "day")
        self.assertEqual(self.why(Date(0, 1, 0)), "day")

    def test_day_beside_each_month(self):
        for kind in KINDS:
            calendar = calendar_of(kind)
            for k in (-FAR, *range(-20, 20), FAR):
                first, length, (year, number, odd) = month_by(kind, k)
                self.assertEqual(day_of(calendar, Date(year, number, length, odd)), first + length - 1)
                for day in (0, length + 1):
                    with self.assertRaises(NoDate) as caught:
                        day_of(calendar, Date(year, number, day, odd))
                    self.assertEqual(caught.exception.why, "day")

    def test_which_comes_first(self):
        self.assertEqual(self.why(Date(0, 13, 0, True)), "number")
        self.assertEqual(self.why(Date(0, 0, 99)), "number")
        self.assertEqual(self.why(Date(0, 1, 0, True)), "odd")
        self.assertEqual(self.why(Date(2, 9, 31, True)), "odd")


class UnchangedTest(unittest.TestCase):
    def test_the_date_stays_and_the_same_is_told_again(self):
        calendar = plain_calendar()
        date = Date(2, 8, 29, True)
        self.assertEqual([day_of(calendar, date) for turn in range(3)], [972, 972, 972])
        self.assertEqual(fields(date), (2, 8, 29, True))
        first = date_of(calendar, 972)
        first.day = 1
        self.assertEqual(date_of(calendar, 972), Date(2, 8, 29, True))
        self.assertEqual(repr(calendar), repr(plain_calendar()))


if __name__ == "__main__":
    unittest.main()
