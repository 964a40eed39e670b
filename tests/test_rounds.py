"""Points [17] and [18], and of [2], [3] and [4] what speaks of rounds."""

import unittest
from fractions import Fraction
from math import floor

from meanmoon.calendars import Calendar
from meanmoon.dates import date_of
from meanmoon.rounds import near_rounds, whole_round
from meanmoon.shares import Share
from tests.samples import KINDS, calendar_of, fraction

FAR = 98765432109876543210
LONG = Calendar(Share(29530588853123456789, 10 ** 18), Share(36524218967012345679, 10 ** 17))


def days_by(month, year):
    """Tell the least days that are whole months and whole years, by going from one whole month to the next."""
    days = month
    while days.denominator > 1 or (days / year).denominator > 1:
        days += month
    return int(days)


def lack_by(kind, years, months):
    month, year, moon, mark = kind
    return months * month - years * year


def nearest_by(kind, years):
    """Tell the months that lack least for these years, the fewer of two as near."""
    month, year, moon, mark = kind
    fewer = floor(years * year / month)
    return min((fewer, fewer + 1), key=lambda months: (abs(lack_by(kind, years, months)), months))


def near_by(kind, most):
    """Tell the near rounds by going through the years."""
    rows = []
    for years in range(1, most + 1):
        months = nearest_by(kind, years)
        lack = lack_by(kind, years, months)
        if not rows or abs(lack) < abs(rows[-1][2]):
            rows.append((years, months, lack))
    return rows


def told_near(calendar, most):
    return [(years, months, fraction(lack)) for years, months, lack in near_rounds(calendar, most)]


def of_year(month, year):
    return (month, year, Fraction(0), Fraction(0))


class WholeRoundTest(unittest.TestCase):
    def test_whole_numbers(self):
        self.assertEqual(whole_round(Calendar(30, 360)), (360, 12, 1))
        self.assertEqual(whole_round(Calendar(30, 365)), (2190, 73, 6))
        self.assertEqual(whole_round(Calendar(1, 12)), (12, 12, 1))
        self.assertEqual(whole_round(Calendar(30, 389)), (11670, 389, 30))

    def test_small_bottoms(self):
        self.assertEqual(whole_round(Calendar(Share(59, 2), 365)), (21535, 730, 59))
        self.assertEqual(whole_round(Calendar(Share(59, 2), Share(1461, 4))), (86199, 2922, 236))
        self.assertEqual(whole_round(Calendar(Share(35, 12), 36)), (1260, 432, 35))
        # Nineteen years are 235 months, but not whole days.
        self.assertEqual(whole_round(calendar_of(KINDS[1])), (35975351, 1218240, 98496))
        self.assertEqual((1218240 * 19, 35975351 * 25920), (98496 * 235, 1218240 * 765433))

    def test_many_figures(self):
        month, year = LONG.month, LONG.year
        days, months, years = whole_round(LONG)
        self.assertEqual(days, months * fraction(month))
        self.assertEqual(days, years * fraction(year))
        # The tops have no divisor in common.
        self.assertEqual(days, 29530588853123456789 * 36524218967012345679)
        year = FAR * 12 + 5
        self.assertEqual(whole_round(Calendar(FAR, year)), (FAR * year // 5, year // 5, FAR // 5))

    def test_by_keyword_and_kinds(self):
        told = whole_round(calendar=Calendar(Share(59, 2), 365))
        self.assertEqual(told, (21535, 730, 59))
        self.assertEqual([type(told)] + [type(part) for part in told], [tuple, int, int, int])

    def test_no_fewer_days_are_whole_months_and_years(self):
        for kind in KINDS:
            month, year, moon, mark = kind
            days, months, years = whole_round(calendar_of(kind))
            if days < 10 ** 7:
                self.assertEqual(days, days_by(month, year))
            self.assertEqual((days, days), (months * month, years * year))

    def test_dates_come_again(self):
        for kind in KINDS:
            calendar = calendar_of(kind)
            days, months, years = whole_round(calendar)
            for base in (-FAR, 0, FAR):
                for day in range(base - 200, base + 200):
                    one, two = date_of(calendar, day), date_of(calendar, day + days)
                    self.assertEqual((one.number, one.odd, one.day), (two.number, two.odd, two.day))
                    self.assertEqual(two.year - one.year, years)

    def test_dates_come_again_no_sooner(self):
        for month, year in ((30, 360), (1, 12), (2, 25), (Share(25, 13), 24), (Share(35, 12), 36)):
            calendar = Calendar(month, year, Share(1, 3), Share(-2, 7))
            days = whole_round(calendar)[0]
            dates = [date_of(calendar, day) for day in range(2 * days)]
            names = [(date.number, date.odd, date.day) for date in dates]
            again = [time for time in range(1, days + 1)
                     if names[time:time + days] == names[:days]
                     and len({two.year - one.year for one, two in zip(dates[:days], dates[time:])}) == 1]
            self.assertEqual(again, [days])

    def test_moon_and_mark_change_nothing(self):
        one = Calendar(Share(59, 2), 365, Share(FAR, 7), Share(-1, FAR))
        self.assertEqual(whole_round(one), whole_round(Calendar(Share(59, 2), 365)))


class NearRoundsTest(unittest.TestCase):
    def test_rows(self):
        due = [(1, 12, Share(-11)), (2, 25, Share(15, 2)), (3, 37, Share(-7, 2)), (8, 99, Share(1, 2)),
               (59, 730, Share(0))]
        calendar = Calendar(Share(59, 2), 365)
        self.assertEqual(near_rounds(calendar, 59), due)
        self.assertEqual(near_rounds(calendar, 58), due[:4])
        self.assertEqual(near_rounds(calendar, 8), due[:4])
        self.assertEqual(near_rounds(calendar, 7), due[:3])
        self.assertEqual(near_rounds(calendar, 1), due[:1])
        # What lacks nothing is the last row, however many years are looked at.
        self.assertEqual(near_rounds(calendar, 9 * 10 ** 18), due)
        self.assertEqual(near_rounds(calendar, FAR), due)

    def test_by_keyword_and_kinds(self):
        told = near_rounds(most=2, calendar=Calendar(Share(59, 2), 365))
        self.assertEqual(told, [(1, 12, Share(-11)), (2, 25, Share(15, 2))])
        self.assertEqual([type(told)] + [type(part) for part in (told[0], *told[0])], [list, tuple, int, int, Share])

    def test_a_year_of_whole_months(self):
        self.assertEqual(near_rounds(Calendar(30, 360), 1), [(1, 12, Share(0))])
        self.assertEqual(near_rounds(Calendar(30, 360), FAR), [(1, 12, Share(0))])

    def test_two_as_near(self):
        # A year of twelve months and a half: the fewer are told.
        self.assertEqual(near_rounds(Calendar(30, 375), 1), [(1, 12, Share(-15))])
        self.assertEqual(near_rounds(Calendar(30, 375), 400), [(1, 12, Share(-15)), (2, 25, Share(0))])

    def test_first_row_above_nought(self):
        # A year is nearer to thirteen months than to twelve.
        self.assertEqual(near_rounds(Calendar(30, 380), 1), [(1, 13, Share(10))])
        self.assertEqual(near_rounds(Calendar(30, 380), 3), [(1, 13, Share(10)), (3, 38, Share(0))])
        self.assertEqual(near_rounds(Calendar(30, 389), 30)[0], (1, 13, Share(1)))
        self.assertEqual(near_rounds(Calendar(30, 376), 1), [(1, 13, Share(14))])
        self.assertEqual(near_rounds(Calendar(30, 374), 1), [(1, 12, Share(-14))])

    def test_by_the_sky(self):
        told = told_near(LONG, 400)
        self.assertEqual([row[:2] for row in told],
                         [(1, 12), (2, 25), (3, 37), (8, 99), (11, 136), (19, 235), (334, 4131)])
        self.assertEqual(told, near_by(of_year(fraction(LONG.month), fraction(LONG.year)), 400))

    def test_same_as_by_going_through(self):
        edges = [of_year(Fraction(30), Fraction(12 * 30 * 12 + part, 12)) for part in range(0, 12 * 29)]
        for kind in (*KINDS, *edges):
            due = near_by(kind, 70)
            calendar = calendar_of(kind)
            for most in (1, 2, 3, 5, 12, 13, 19, 70):
                self.assertEqual(told_near(calendar, most), [row for row in due if row[0] <= most], kind)

    def test_none_for_fewer_years_lacks_as_little(self):
        for kind in KINDS:
            for years, months, lack in told_near(calendar_of(kind), 30):
                self.assertEqual(lack, lack_by(kind, years, months))
                others = [abs(lack_by(kind, fewer, other)) for fewer in range(1, years) for other in range(14 * fewer)]
                self.assertTrue(all(abs(lack) < other for other in others))
                same = [(abs(lack_by(kind, years, other)), other) for other in range(14 * years)]
                self.assertEqual(min(same), (abs(lack), months))

    def test_many_figures(self):
        rows = told_near(LONG, 10 ** 19 - 1)
        self.assertGreater(len(rows), 20)
        self.assertGreater(rows[-1][0], 10 ** 16)
        self.assertLess(rows[-1][0], 10 ** 19)
        month, year = fraction(LONG.month), fraction(LONG.year)
        for (years, months, lack), (more, behind, less) in zip(rows, rows[1:]):
            self.assertEqual(lack, months * month - years * year)
            self.assertLess(years, more)
            self.assertLess(abs(less), abs(lack))
            # Where this is 1, no months are nearer than the first row's for any years between the two.
            self.assertEqual(abs(months * more - behind * years), 1)

    def test_more_years_tell_the_same_rows_first(self):
        for calendar in (LONG, *[calendar_of(kind) for kind in KINDS]):
            rows = told_near(calendar, FAR)
            for most in (1, 2, 19, 400, 10 ** 6, 10 ** 12, 10 ** 18):
                self.assertEqual(told_near(calendar, most), [row for row in rows if row[0] <= most])

    def test_ends_in_the_whole_round(self):
        for kind in KINDS:
            month, year, moon, mark = kind
            years, months, lack = told_near(calendar_of(kind), FAR)[-1]
            self.assertEqual(lack, 0)
            self.assertEqual(Fraction(months, years), year / month)
            self.assertEqual(years, (year / month).denominator)


class AgainTest(unittest.TestCase):
    def test_lists_are_the_askers_own(self):
        calendar = Calendar(Share(59, 2), 365)
        told = near_rounds(calendar, 8)
        due = list(told)
        told.pop()
        told[0] = None
        self.assertEqual(near_rounds(calendar, 8), due)
        self.assertEqual(near_rounds(calendar, 8), due)

    def test_the_calendar_stays(self):
        calendar = Calendar(Share(59, 2), 365)
        first = (whole_round(calendar), near_rounds(calendar, 400))
        self.assertEqual((whole_round(calendar), near_rounds(calendar, 400)), first)
        self.assertEqual(repr(calendar), repr(Calendar(Share(59, 2), 365)))


if __name__ == "__main__":
    unittest.main()
