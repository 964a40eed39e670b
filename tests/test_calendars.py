"""Points [7], [8] and [9], and of [2] and [3] what speaks of Calendars."""

import unittest
from fractions import Fraction

from meanmoon.calendars import Calendar
from meanmoon.errors import NoCalendar
from meanmoon.shares import Share, minus, plus
from tests.samples import KINDS, calendar_of, mark_day_by, marks_in_by, month_at_by, start_by

FAR = 98765432109876543210
SPECK = Share(1, FAR)


def fields(calendar):
    return (calendar.month, calendar.year, calendar.moon, calendar.mark)


class MadeTest(unittest.TestCase):
    def test_shares_by_place(self):
        calendar = Calendar(Share(59, 2), Share(365), Share(1, 3), Share(-5, 2))
        self.assertEqual(fields(calendar), (Share(59, 2), Share(365), Share(1, 3), Share(-5, 2)))

    def test_shares_by_keyword(self):
        calendar = Calendar(mark=Share(-5, 2), moon=Share(1, 3), year=Share(365), month=Share(59, 2))
        self.assertEqual(fields(calendar), (Share(59, 2), Share(365), Share(1, 3), Share(-5, 2)))

    def test_whole_numbers(self):
        calendar = Calendar(30, 365, -4, 17)
        self.assertEqual(fields(calendar), (Share(30), Share(365), Share(-4), Share(17)))
        calendar = Calendar(month=30, year=365, moon=0, mark=0)
        self.assertEqual(fields(calendar), (Share(30), Share(365), Share(0), Share(0)))

    def test_moon_and_mark_not_told(self):
        self.assertEqual(fields(Calendar(30, 365)), (Share(30), Share(365), Share(0), Share(0)))
        self.assertEqual(fields(Calendar(30, 365, 5)), (Share(30), Share(365), Share(5), Share(0)))
        self.assertEqual(fields(Calendar(30, 365, mark=5)), (Share(30), Share(365), Share(0), Share(5)))
        self.assertEqual(fields(Calendar(30, 365, None, 5)), (Share(30), Share(365), Share(0), Share(5)))
        self.assertEqual(fields(Calendar(30, 365, moon=Share(1, 9))).count(Share(1, 9)), 1)

    def test_what_is_handed_in_stays(self):
        handed = (Share(59, 2), Share(365), Share(600, 7), Share(-5, 2))
        calendar = Calendar(*handed)
        calendar.name_of(calendar.month_at(FAR))
        self.assertEqual(handed, (Share(59, 2), Share(365), Share(600, 7), Share(-5, 2)))
        self.assertEqual(fields(calendar), handed)


class RefusedTest(unittest.TestCase):
    def why(self, month, year):
        with self.assertRaises(NoCalendar) as caught:
            Calendar(month, year)
        return caught.exception.why

    def test_month(self):
        self.assertEqual(fields(Calendar(1, 12))[0], Share(1))
        self.assertEqual(self.why(minus(1, SPECK), 12), "month")
        self.assertEqual(self.why(0, 0), "month")
        self.assertEqual(self.why(Share(-59, 2), -365), "month")

    def test_between(self):
        # The least whole number above the month is 30, and twelve times that 360.
        self.assertEqual(fields(Calendar(Share(59, 2), 360))[1], Share(360))
        self.assertEqual(self.why(Share(59, 2), minus(360, SPECK)), "between")
        self.assertEqual(fields(Calendar(30, 360))[1], Share(360))
        self.assertEqual(self.why(30, minus(360, SPECK)), "between")
        self.assertEqual(self.why(plus(30, SPECK), 360), "between")
        self.assertEqual(self.why(plus(30, SPECK), Share(743, 2)), "between")
        self.assertEqual(fields(Calendar(plus(30, SPECK), 372))[1], Share(372))
        self.assertEqual(self.why(1, -12), "between")

    def test_thirteen(self):
        self.assertEqual(fields(Calendar(30, 389))[1], Share(389))
        self.assertEqual(self.why(30, plus(389, SPECK)), "thirteen")
        self.assertEqual(fields(Calendar(Share(59, 2), Share(765, 2)))[1], Share(765, 2))
        self.assertEqual(self.why(Share(59, 2), plus(Share(765, 2), SPECK)), "thirteen")
        self.assertEqual(self.why(minus(Share(59, 2), SPECK), Share(765, 2)), "thirteen")
        self.assertEqual(self.why(1, plus(12, SPECK)), "thirteen")
        self.assertEqual(self.why(30, FAR), "thirteen")

    def test_which_comes_first(self):
        # All three fail.
        self.assertEqual(self.why(Share(1, 2), 11), "month")
        # The month, and thirteen months.
        self.assertEqual(self.why(Share(1, 2), 12), "month")
        # The month and what lies between.
        self.assertEqual(self.why(Share(99, 100), Share(1187, 100)), "month")
        # What lies between, and thirteen months.
        self.assertEqual(self.why(Share(3, 2), 20), "between")

    def test_same_as_by_its_words(self):
        for tops in range(1, 40):
            for years in range(0, 160):
                month, year = Fraction(tops, 5), Fraction(years, 2)
                due = None
                if month < 1:
                    due = "month"
                elif not any(month <= w <= year / 12 for w in range(10)):
                    due = "between"
                elif 13 * month - year < 1:
                    due = "thirteen"
                told = None
                try:
                    Calendar(Share(tops, 5), Share(years, 2))
                except NoCalendar as refusal:
                    told = refusal.why
                self.assertEqual(told, due, (month, year))

    def test_it_is_a_value_error_that_moon_and_mark_do_not_heal(self):
        with self.assertRaises(ValueError):
            Calendar(30, 359, 1, 1)
        for moon in (-FAR, FAR, Share(-1, FAR)):
            Calendar(30, 360, moon, moon)


class MonthsTest(unittest.TestCase):
    def test_half_days(self):
        calendar = Calendar(Share(59, 2), 365)
        self.assertEqual([calendar.start(k) for k in range(-3, 5)], [-89, -59, -30, 0, 29, 59, 88, 118])
        self.assertEqual([calendar.month_at(day) for day in (-31, -30, -1, 0, 28, 29, 58, 59)],
                         [-2, -1, -1, 0, 0, 1, 1, 2])

    def test_moon_moves_the_months(self):
        calendar = Calendar(Share(59, 2), 365, moon=Share(-7, 2))
        self.assertEqual([calendar.start(k) for k in (-1, 0, 1, 2)], [-33, -4, 26, 55])
        self.assertEqual([calendar.month_at(day) for day in (-34, -33, -5, -4, 25, 26)], [-2, -1, -1, 0, 0, 1])

    def test_same_as_by_going_through(self):
        for kind in KINDS:
            calendar = calendar_of(kind)
            near = 0
            for day in range(-900, 900):
                near = month_at_by(kind, day, near)
                self.assertEqual(calendar.month_at(day), near, (kind, day))
            for k in range(-40, 40):
                self.assertEqual(calendar.start(k), start_by(kind, k))

    def test_first_and_last_day_and_the_days_beside(self):
        for kind in KINDS:
            calendar = calendar_of(kind)
            for k in (-FAR, -1000, -1, 0, 1, 999, FAR):
                first, behind = calendar.start(k), calendar.start(k + 1)
                self.assertEqual(first, start_by(kind, k))
                self.assertLess(first, behind)
                days = (first - 1, first, behind - 1, behind)
                self.assertEqual([calendar.month_at(day) for day in days], [k - 1, k, k, k + 1])

    def test_days_of_twenty_figures(self):
        for kind in KINDS:
            calendar = calendar_of(kind)
            for day in (-FAR, 1 - FAR, FAR - 1, FAR):
                k = calendar.month_at(day)
                self.assertLessEqual(start_by(kind, k), day)
                self.assertLess(day, start_by(kind, k + 1))

    def test_shares_of_twenty_figures(self):
        month = Fraction(FAR * 3 // 10, FAR // 100 + 7)
        kind = (month, 12 * (month + 1), Fraction(FAR, FAR - 1), Fraction(1 - FAR, FAR))
        calendar = calendar_of(kind)
        for k in (-FAR, 0, FAR):
            self.assertEqual(calendar.start(k), start_by(kind, k))
            self.assertEqual(calendar.mark_day(k), mark_day_by(kind, k))
            self.assertEqual(calendar.month_at(calendar.start(k)), k)
            self.assertEqual(calendar.month_at(calendar.start(k) - 1), k - 1)
            j = calendar.mark_in(calendar.month_with(k))
            self.assertEqual(j, k)

    def test_a_month_of_one_day(self):
        calendar = Calendar(1, 12, 5, 7)
        self.assertEqual([calendar.start(k) for k in (-6, 0, 6)], [-1, 5, 11])
        self.assertEqual([calendar.month_at(day) for day in (-1, 5, 11)], [-6, 0, 6])
        self.assertEqual(calendar.mark_in(2), 0)
        self.assertEqual(calendar.name_of(1), (-1, 12, False))

    def test_keywords(self):
        calendar = Calendar(Share(59, 2), 365)
        self.assertEqual((calendar.start(k=1), calendar.month_at(day=29)), (29, 1))
        self.assertEqual((calendar.mark_day(j=1), calendar.month_with(j=1)), (30, 1))
        self.assertEqual((calendar.mark_in(k=1), calendar.name_of(k=1)), (1, (0, 2, False)))


class MarksTest(unittest.TestCase):
    def test_mark_days(self):
        calendar = Calendar(Share(59, 2), 365)
        self.assertEqual([calendar.mark_day(j) for j in range(-2, 4)], [-61, -31, 0, 30, 60, 91])
        self.assertEqual([calendar.mark_day(j) for j in (-12, 12, 120)], [-365, 365, 3650])
        calendar = Calendar(Share(59, 2), 365, mark=Share(-1, 100))
        self.assertEqual([calendar.mark_day(j) for j in (-12, 0, 1)], [-366, -1, 30])

    def test_same_as_by_going_through(self):
        for kind in KINDS:
            calendar = calendar_of(kind)
            near = calendar.month_at(calendar.mark_day(0))
            for j in range(-60, 60):
                self.assertEqual(calendar.mark_day(j), mark_day_by(kind, j))
                near = month_at_by(kind, mark_day_by(kind, j), near)
                self.assertEqual(calendar.month_with(j), near)

    def test_marks_in_months(self):
        for kind in KINDS:
            calendar = calendar_of(kind)
            for k in range(-60, 60):
                marks = marks_in_by(kind, k, 0)
                self.assertLess(len(marks), 2)
                told = calendar.mark_in(k)
                self.assertEqual(told, marks[0] if marks else None, (kind, k))

    def test_a_month_without_a_mark(self):
        # Month 32 has the days 944 to 972; mark 31 falls on 942 and mark 32 on 973.
        calendar = Calendar(Share(59, 2), 365)
        self.assertEqual((calendar.start(32), calendar.start(33)), (944, 973))
        self.assertEqual((calendar.mark_day(31), calendar.mark_day(32)), (942, 973))
        self.assertEqual([calendar.mark_in(k) for k in (31, 32, 33)], [31, None, 32])
        self.assertEqual([calendar.month_with(j) for j in (31, 32)], [31, 33])

    def test_a_mark_on_the_last_day_and_on_the_first(self):
        for mark in range(0, 30):
            self.assertEqual(Calendar(30, 360, 0, mark).mark_in(0), 0)
        self.assertEqual(Calendar(30, 360, 0, 30).mark_in(0), -1)
        self.assertEqual(Calendar(30, 360, 0, plus(29, Share(FAR - 1, FAR))).mark_in(0), 0)
        self.assertEqual(Calendar(30, 360, 0, minus(0, SPECK)).mark_in(0), 1)

    def test_a_mark_ahead_of_the_moon_on_its_day_falls_in_the_new_month(self):
        calendar = Calendar(Share(59, 2), 365, moon=Share(9, 10), mark=Share(1, 10))
        self.assertEqual((calendar.month_with(0), calendar.mark_in(0), calendar.start(0)), (0, 0, 0))

    def test_marks_of_twenty_figures(self):
        for kind in KINDS:
            calendar = calendar_of(kind)
            for j in (-FAR, 1 - FAR, FAR - 1, FAR):
                day = calendar.mark_day(j)
                self.assertEqual(day, mark_day_by(kind, j))
                k = calendar.month_with(j)
                self.assertLessEqual(start_by(kind, k), day)
                self.assertLess(day, start_by(kind, k + 1))
                self.assertEqual(calendar.mark_in(k), j)

    def test_months_of_twenty_figures(self):
        for kind in KINDS:
            calendar = calendar_of(kind)
            for base in (-FAR, FAR):
                near = calendar.mark_in(calendar.month_at(start_by(kind, base)))
                if near is None:
                    near = calendar.mark_in(base - 1)
                for k in range(base - 20, base + 20):
                    marks = marks_in_by(kind, k, near)
                    self.assertEqual(calendar.mark_in(k), marks[0] if marks else None)


class NamesTest(unittest.TestCase):
    def test_names_about_an_odd_month(self):
        calendar = Calendar(Share(59, 2), 365)
        self.assertEqual([calendar.name_of(k) for k in range(30, 35)],
                         [(2, 7, False), (2, 8, False), (2, 8, True), (2, 9, False), (2, 10, False)])

    def test_names_about_a_new_year(self):
        calendar = Calendar(Share(59, 2), 365)
        self.assertEqual([calendar.name_of(k) for k in (-1, 0, 11, 12)],
                         [(-1, 12, True), (0, 1, False), (0, 12, False), (1, 1, False)])
        self.assertEqual([calendar.name_of(k) for k in (-3, -2)], [(-1, 11, False), (-1, 12, False)])

    def test_an_odd_month_at_the_end_of_a_year_keeps_that_year(self):
        calendar = Calendar(Share(59, 2), 365, mark=Share(1, 2))
        found = [k for k in range(-500, 500) if calendar.name_of(k)[1:] == (12, True)]
        self.assertNotEqual(found, [])
        for k in found:
            year = calendar.name_of(k)[0]
            self.assertEqual(calendar.name_of(k - 1), (year, 12, False))
            self.assertEqual(calendar.name_of(k + 1), (year + 1, 1, False))

    def test_same_as_by_going_through(self):
        for kind in KINDS:
            calendar = calendar_of(kind)
            for k in range(-60, 60):
                marks = marks_in_by(kind, k, 0)
                odd = not marks
                if odd:
                    marks = marks_in_by(kind, k - 1, 0)
                due = (marks[0] // 12, marks[0] % 12 + 1, odd)
                told = calendar.name_of(k)
                self.assertEqual(told, due, (kind, k))
                self.assertIs(type(told), tuple)
                self.assertIs(type(told[2]), bool)

    def test_the_month_ahead_of_an_odd_one_has_a_mark_and_its_name(self):
        for kind in KINDS:
            calendar = calendar_of(kind)
            for base in (-FAR, 0, FAR):
                for k in range(base, base + 80):
                    year, number, odd = calendar.name_of(k)
                    self.assertEqual(odd, calendar.mark_in(k) is None)
                    if odd:
                        self.assertEqual(calendar.name_of(k - 1), (year, number, False))

    def test_each_year_has_twelve_months_or_thirteen_and_one_of_them_odd(self):
        for kind in KINDS:
            calendar = calendar_of(kind)
            for year in (-FAR, -3, -2, -1, 0, 1, 2, 3, 4, FAR):
                ks = range(calendar.month_with(12 * year), calendar.month_with(12 * year + 12))
                names = [calendar.name_of(k) for k in ks]
                self.assertEqual({name[0] for name in names}, {year})
                self.assertEqual([name[1] for name in names if not name[2]], list(range(1, 13)))
                self.assertIn(len(names), (12, 13))
                self.assertEqual(len([name for name in names if name[2]]), len(names) - 12)


class AgainTest(unittest.TestCase):
    def test_asked_again_the_same_is_told(self):
        calendar = Calendar(Share(59, 2), 365, Share(600, 7), Share(-5, 2))
        for ask in (calendar.start, calendar.month_at, calendar.mark_day, calendar.month_with,
                    calendar.mark_in, calendar.name_of):
            for number in (-FAR, -32, 0, 32, FAR):
                first = ask(number)
                calendar.name_of(number + 1)
                self.assertEqual(ask(number), first)
        self.assertEqual(fields(calendar), (Share(59, 2), Share(365), Share(600, 7), Share(-5, 2)))


if __name__ == "__main__":
    unittest.main()
