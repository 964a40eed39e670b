"""Point [16], and of [4] what speaks of calendars that are told alike."""

import unittest
from fractions import Fraction

from meanmoon.calendars import Calendar, kept_form
from meanmoon.shares import Share, minus, plus, times
from tests.cases import EqualCase
from tests.samples import KINDS, calendar_of, fraction, mark_day_by, share, start_by

FAR = 98765432109876543210
SPECK = Share(1, FAR)
MONTH = Share(59, 2)


def by_moon(moon):
    return Calendar(MONTH, 365, moon)


def by_mark(mark, year=365):
    return Calendar(MONTH, year, 0, mark)


def month_days(kind, days):
    """Tell which of the days from 0 on are first days of a month."""
    k = -2
    while start_by(kind, k) > 0:
        k -= 1
    starts = []
    while start_by(kind, k) < days:
        if start_by(kind, k) >= 0:
            starts.append(start_by(kind, k))
        k += 1
    return starts


def mark_days(kind):
    """Tell the days of as many marks as it takes until all parts of a day came."""
    month, year, moon, mark = kind
    return [mark_day_by(kind, j) for j in range((year / 12).denominator)]


class FormTest(unittest.TestCase):
    def test_four_shares(self):
        form = kept_form(Calendar(MONTH, 365, 0, Share(1, 3)))
        self.assertIs(type(form), tuple)
        self.assertEqual(form, (MONTH, Share(365), Share(0), Share(1, 3)))
        self.assertEqual(kept_form(calendar=Calendar(30, 360)), (Share(30), Share(360), Share(0), Share(0)))

    def moon_kept(self, moon):
        form = kept_form(by_moon(moon))
        self.assertEqual((form[0], form[1], form[3]), (MONTH, Share(365), Share(0)))
        return form[2]

    def test_moon_whole_months_on_or_back(self):
        for months in (-FAR, -2, -1, 0, 1, 2, FAR):
            self.assertEqual(self.moon_kept(times(months, MONTH)), Share(0))
            self.assertEqual(self.moon_kept(plus(Share(7, 2), times(months, MONTH))), Share(7, 2))

    def test_moon_moved_by_less_than_changes_a_day(self):
        self.assertEqual(self.moon_kept(minus(Share(1, 2), SPECK)), Share(0))
        self.assertEqual(self.moon_kept(Share(1, 2)), Share(1, 2))
        self.assertEqual(self.moon_kept(minus(29, SPECK)), Share(57, 2))
        self.assertEqual(self.moon_kept(minus(MONTH, SPECK)), Share(29))
        self.assertEqual(self.moon_kept(minus(0, SPECK)), Share(29))
        self.assertEqual(self.moon_kept(Share(-1, 2)), Share(29))
        self.assertEqual(self.moon_kept(minus(Share(-1, 2), SPECK)), Share(57, 2))

    def test_mark_moved_by_less_than_changes_a_day(self):
        # A twelfth of 365 days has the bottom 12, one of 360 days 1, one of 366 days 2.
        for year, part in ((365, 12), (360, 1), (366, 2), (Share(1461, 4), 16)):
            for parts in (-FAR, -13, -1, 0, 1, 5, FAR):
                least = Share(parts, part)
                for mark in (least, plus(least, SPECK), minus(Share(parts + 1, part), SPECK)):
                    form = kept_form(by_mark(mark, year))
                    self.assertEqual(form[3], least)
                    self.assertEqual(form[:3], (MONTH, kept_form(by_mark(0, year))[1], Share(0)))

    def test_mark_keeps_whole_years_and_may_be_below_nought(self):
        self.assertEqual(kept_form(by_mark(365))[3], Share(365))
        self.assertEqual(kept_form(by_mark(-365))[3], Share(-365))
        self.assertEqual(kept_form(by_mark(Share(-1, 100)))[3], Share(-1, 12))

    def test_the_form_leads_to_the_same_days(self):
        for kind in KINDS:
            calendar = calendar_of(kind)
            kept = Calendar(*kept_form(calendar))
            self.assertEqual(kept_form(kept), kept_form(calendar))
            self.assertTrue(kept == calendar)
            shift = kept.month_at(0) - calendar.month_at(0)
            for at in (-FAR, FAR, *range(-60, 60)):
                self.assertEqual(kept.start(at + shift), calendar.start(at))
                self.assertEqual(kept.mark_day(at), calendar.mark_day(at))

    def test_no_lesser_moment_leads_to_the_same_days(self):
        for month, year in ((Fraction(25, 13), Fraction(24)), (Fraction(35, 12), Fraction(147, 4))):
            day_round = month.numerator
            for at in range(-70, 70, 9):
                kind = (month, year, Fraction(at, 26), Fraction(at, 5))
                form = kept_form(calendar_of(kind))
                least_moon, least_mark = fraction(form[2]), fraction(form[3])
                step = Fraction(1, 2 * month.denominator)
                due = month_days(kind, day_round)
                moon = Fraction(0)
                while month_days((month, year, moon, 0), day_round) != due:
                    moon += step
                self.assertEqual(least_moon, moon)
                self.assertEqual(mark_days((month, year, 0, least_mark)), mark_days(kind))
                ahead = least_mark - Fraction(1, FAR)
                self.assertNotEqual(mark_days((month, year, 0, ahead)), mark_days(kind))


class EqualTest(EqualCase):
    def alike(self, one, two):
        EqualCase.alike(self, one, two)
        self.assertEqual(kept_form(one), kept_form(two))

    def unlike(self, one, two):
        EqualCase.unlike(self, one, two)
        self.assertNotEqual(kept_form(one), kept_form(two))

    def test_moons(self):
        plain = by_moon(0)
        self.alike(plain, by_moon(None))
        for moon in (MONTH, -59, times(-FAR, MONTH), minus(Share(1, 2), SPECK), plus(59, Share(1, 3))):
            self.alike(plain, by_moon(moon))
        for moon in (Share(1, 2), Share(-1, 2), minus(0, SPECK), 1, 29, plus(MONTH, Share(1, 2)), 365):
            self.unlike(plain, by_moon(moon))

    def test_marks(self):
        plain = by_mark(0)
        self.alike(plain, by_mark(minus(Share(1, 12), SPECK)))
        for mark in (Share(1, 12), minus(0, SPECK), 365, -365, Share(365, 12), 1):
            self.unlike(plain, by_mark(mark))
        self.alike(by_mark(Share(1, 2), 360), by_mark(0, 360))

    def test_month_and_year(self):
        self.unlike(by_moon(0), Calendar(Share(59 * FAR + 1, 2 * FAR), 365))
        self.unlike(by_moon(0), Calendar(MONTH, plus(365, SPECK)))
        self.alike(Calendar(30, 365), Calendar(Share(60, 2), Share(730, 2)))

    def test_alike_just_where_months_and_marks_stand_on_the_same_days(self):
        # Of these any two lead to the same months, or to the same marks, or to neither or both.
        month, year = Fraction(35, 12), Fraction(147, 4)
        kinds = [(month, year, Fraction(moon, 24) + months * month, Fraction(mark, 32))
                 for moon in (-1, 0, 1, 2, 17, 68, 69) for months in (-2, 0, 1) for mark in (-1, 0, 1, 2, 1176)]
        rows = [(calendar_of(kind), month_days(kind, month.numerator), mark_days(kind)) for kind in kinds]
        for one, months, marks in rows:
            for two, other_months, other_marks in rows:
                self.assertIs(one == two, months == other_months and marks == other_marks, (one, two))

    def test_never_a_thing_of_another_kind(self):
        calendar = Calendar(MONTH, 365, 0, Share(1, 3))
        for other in (kept_form(calendar), list(kept_form(calendar)), str(calendar), repr(calendar),
                      None, 0, MONTH, Calendar):
            self.assertIs(calendar == other, False)
            self.assertIs(other == calendar, False)
            self.assertIs(calendar != other, True)


class WrittenTest(unittest.TestCase):
    def test_str(self):
        self.assertEqual(str(Calendar(MONTH, 365, 0, Share(1, 3))), "month 59/2\nyear 365\nmoon 0\nmark 1/3")
        self.assertEqual(str(Calendar(30, Share(1461, 4), Share(-90, 4), -7)),
                         "month 30\nyear 1461/4\nmoon -45/2\nmark -7")

    def test_repr(self):
        self.assertEqual(repr(Calendar(MONTH, 365, 0, Share(1, 3))),
                         "Calendar(Share(59, 2), Share(365, 1), Share(0, 1), Share(1, 3))")
        self.assertEqual(repr(Calendar(30, Share(1461, 4), Share(-90, 4))),
                         "Calendar(Share(30, 1), Share(1461, 4), Share(-45, 2), Share(0, 1))")

    def test_written_by_its_fields_not_by_its_kept_form(self):
        calendar = Calendar(MONTH, 365, 60, Share(1, 100))
        self.assertEqual(str(calendar), "month 59/2\nyear 365\nmoon 60\nmark 1/100")
        self.assertEqual(repr(calendar), "Calendar(Share(59, 2), Share(365, 1), Share(60, 1), Share(1, 100))")


class AgainTest(unittest.TestCase):
    def test_nothing_is_changed_and_the_same_is_told_again(self):
        for kind in KINDS:
            calendar = calendar_of(kind)
            first = (kept_form(calendar), str(calendar), repr(calendar), calendar == calendar_of(kind))
            self.assertEqual((kept_form(calendar), str(calendar), repr(calendar), calendar == calendar_of(kind)),
                             first)
            fields = (calendar.month, calendar.year, calendar.moon, calendar.mark)
            self.assertEqual(fields, tuple(share(part) for part in kind))


if __name__ == "__main__":
    unittest.main()
