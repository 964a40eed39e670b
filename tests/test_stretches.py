"""Point [15], and of [2], [3] and [4] what speaks of stretches."""

import unittest
from fractions import Fraction
from math import floor

from meanmoon.calendars import Calendar
from meanmoon.shares import Share
from meanmoon.stretches import days_of, lengths_from, stretches
from tests.samples import KINDS, calendar_of, start_by

FAR = 98765432109876543210

# Months with a bottom of twenty figures, near a whole number from both sides and far from it, and of one between.
GREAT = (
    Share(29 * (FAR + 1) + 1, FAR + 1),
    Share(30 * (FAR + 1) - 1, FAR + 1),
    Share(59 * FAR // 2 + 1, FAR),
    Share(29 * FAR + 52402431098765432, FAR),
    Share(765433, 25920),
)


def plain_calendar():
    return Calendar(Share(59, 2), 365)


def calendar_by(month, moon=0):
    """Tell a calendar of this month, of 13 days at least, with a year that isn't refused."""
    return Calendar(month, 12 * -(-month.top // month.bottom), moon)


def all_that_come(month, many):
    """Tell the lengths of so many months in a row that come, by going through all months until they come again."""
    found = set()
    for k in range(month.bottom):
        starts = [(k + n) * month.top // month.bottom for n in range(many + 1)]
        found.add(tuple(starts[n + 1] - starts[n] for n in range(many)))
    return sorted(found)


def month_at_part(calendar, part):
    """Tell a k whose moon comes at this part of a day, counted in bottoms of the month."""
    month = calendar.month
    first = floor(Fraction(calendar.moon.top, calendar.moon.bottom) * month.bottom)
    k = (part - first) * pow(month.top, -1, month.bottom) % month.bottom
    assert (first + k * month.top) % month.bottom == part
    return k


class LengthsTest(unittest.TestCase):
    def test_months(self):
        calendar = plain_calendar()
        self.assertEqual(lengths_from(calendar, 0, 5), [29, 30, 29, 30, 29])
        self.assertEqual(lengths_from(calendar, 1, 1), [30])
        self.assertEqual(lengths_from(calendar, -3, 4), [30, 29, 30, 29])
        self.assertEqual(lengths_from(many=2, k=-1, calendar=calendar), [30, 29])

    def test_no_month(self):
        for k in (-FAR, -1, 0, FAR):
            self.assertEqual(lengths_from(plain_calendar(), k, 0), [])
            self.assertEqual(days_of(plain_calendar(), k, 0), 0)

    def test_days(self):
        calendar = plain_calendar()
        self.assertEqual([days_of(calendar, 0, many) for many in range(5)], [0, 29, 59, 88, 118])
        self.assertEqual([days_of(calendar, -1, many) for many in range(5)], [0, 30, 59, 89, 118])
        self.assertEqual(days_of(calendar, 0, 400), 11800)
        self.assertEqual(days_of(many=2, k=-7, calendar=calendar), 59)

    def test_days_of_more_months_than_can_be_gone_through(self):
        self.assertEqual(days_of(plain_calendar(), -FAR, 2 * FAR), 59 * FAR)
        self.assertEqual(days_of(plain_calendar(), 1, FAR + 1), 2913580247241358024725)

    def test_same_as_by_going_through(self):
        for kind in KINDS:
            calendar = calendar_of(kind)
            for k in (-FAR, -50, -1, 0, 7, FAR):
                for many in (0, 1, 2, 13, 100, 400):
                    due = [start_by(kind, n + 1) - start_by(kind, n) for n in range(k, k + many)]
                    self.assertEqual(lengths_from(calendar, k, many), due)
                    self.assertEqual(days_of(calendar, k, many), sum(due))

    def test_days_of_as_many_months_differ_by_at_most_one(self):
        for kind in KINDS:
            calendar = calendar_of(kind)
            for many in (1, 2, 12, 13, 235, 400):
                told = {days_of(calendar, k, many) for k in (-FAR, *range(-40, 60), FAR)}
                self.assertLessEqual(max(told) - min(told), 1)


class StretchesTest(unittest.TestCase):
    def test_a_month_of_half_days(self):
        calendar = plain_calendar()
        self.assertEqual(stretches(calendar, 1), [(29,), (30,)])
        self.assertEqual(stretches(calendar, 2), [(29, 30), (30, 29)])
        self.assertEqual(stretches(calendar, 3), [(29, 30, 29), (30, 29, 30)])
        self.assertEqual(stretches(many=2, calendar=calendar), [(29, 30), (30, 29)])

    def test_a_month_of_thirds(self):
        calendar = Calendar(Share(88, 3), 360)
        self.assertEqual(stretches(calendar, 1), [(29,), (30,)])
        self.assertEqual(stretches(calendar, 2), [(29, 29), (29, 30), (30, 29)])
        self.assertEqual(stretches(calendar, 3), [(29, 29, 30), (29, 30, 29), (30, 29, 29)])
        self.assertEqual(stretches(calendar, 4), [(29, 29, 30, 29), (29, 30, 29, 29), (30, 29, 29, 30)])

    def test_a_month_of_whole_days(self):
        for many in (1, 2, 400):
            self.assertEqual(stretches(Calendar(30, 360), many), [(30,) * many])
            self.assertEqual(stretches(Calendar(1, 12, Share(1, 3)), many), [(1,) * many])

    def test_the_moon_changes_nothing(self):
        for many in (1, 5, 30):
            due = stretches(calendar_by(Share(206, 7)), many)
            for moon in (Share(-1, 3), Share(5, 7), 1000, -FAR, Share(1, FAR)):
                self.assertEqual(stretches(calendar_by(Share(206, 7), moon), many), due)

    def test_small_bottoms(self):
        for bottom in range(1, 14):
            for top in range(13 * bottom, 14 * bottom + 2):
                month = Share(top, bottom)
                for many in (1, 2, 3, bottom - 1, bottom, bottom + 1, 20):
                    if many > 0:
                        told = stretches(calendar_by(month), many)
                        self.assertEqual(told, all_that_come(month, many), (month, many))
                        self.assertEqual(len(told), min(many + 1, month.bottom))

    def test_many_months(self):
        for month in (Share(1447, 49), Share(59, 2), Share(11841, 401), Share(11811, 400)):
            self.assertEqual(stretches(calendar_by(month), 400), all_that_come(month, 400))
        for month in (Share(11841, 401), Share(11813, 402), Share(765433, 25920)):
            self.assertEqual(len(stretches(calendar_by(month), 400)), 401)
        self.assertEqual(len(stretches(calendar_by(Share(11811, 400)), 400)), 400)

    def test_great_bottoms(self):
        for month in GREAT:
            for many in (1, 2, 13, 60):
                told = stretches(calendar_by(month), many)
                self.assertEqual(len(told), many + 1)
                self.assertEqual(told, sorted(told))
                self.assertEqual(len(set(told)), many + 1)
                self.assertEqual({type(lengths) for lengths in told}, {tuple})
                self.assertEqual({len(lengths) for lengths in told}, {many})

    def test_of_great_bottoms_each_comes_somewhere_and_no_other(self):
        for month in GREAT:
            calendar = calendar_by(month, Share(-17, 3))
            for many in (1, 2, 13, 40):
                # A stretch becomes another one only where one of its moons crosses the beginning of a day, so
                # all that come come at these parts of a day.
                parts = [-n * month.top % month.bottom for n in range(many + 1)]
                beside = [(part - 1) % month.bottom for part in parts]
                come = {tuple(lengths_from(calendar, month_at_part(calendar, part), many)) for part in parts}
                self.assertEqual(stretches(calendar, many), sorted(come))
                for part in beside:
                    self.assertIn(tuple(lengths_from(calendar, month_at_part(calendar, part), many)), come)

    def test_what_comes_is_told(self):
        for kind in KINDS:
            calendar = calendar_of(kind)
            for many in (1, 4, 13):
                told = stretches(calendar, many)
                for k in (-FAR, *range(-60, 60), FAR):
                    self.assertIn(tuple(lengths_from(calendar, k, many)), told)

    def test_days_of_any_two_differ_by_at_most_one(self):
        for month in GREAT:
            for many in (1, 2, 13, 400):
                days = {sum(lengths) for lengths in stretches(calendar_by(month), many)}
                self.assertLessEqual(max(days) - min(days), 1)


class AgainTest(unittest.TestCase):
    def test_lists_are_the_askers_own(self):
        calendar = plain_calendar()
        for told, again in ((lengths_from(calendar, 0, 3), lambda: lengths_from(calendar, 0, 3)),
                            (stretches(calendar, 3), lambda: stretches(calendar, 3))):
            self.assertIs(type(told), list)
            due = list(told)
            told.append("more")
            told[0] = "other"
            self.assertEqual(again(), due)
        self.assertEqual(repr(calendar), repr(plain_calendar()))


if __name__ == "__main__":
    unittest.main()
