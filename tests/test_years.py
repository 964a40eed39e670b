"""Points [13] and [14], and of [2], [3] and [4] what speaks of years."""

import unittest

from meanmoon.calendars import Calendar
from meanmoon.dates import Date, day_of
from meanmoon.shares import Share
from meanmoon.years import Year, kinds, odd_years
from tests.cases import EqualCase
from tests.samples import KINDS, calendar_of, year_by

FAR = 98765432109876543210
PLAIN_NAMES = [(number, False) for number in range(1, 13)]
ODD_NAMES = PLAIN_NAMES[:8] + [(8, True)] + PLAIN_NAMES[8:]


def plain_calendar():
    # Of the years from -9 to 10 just -9, -6, -3, -1, 2, 5, 7 and 10 have an odd month.
    return Calendar(Share(59, 2), 365)


def told_of(year):
    return (year.number, year.first, year.names, year.lengths, year.odd)


def fields_by(kind, number):
    """Tell what the fields of a Year must be, by going through the months about."""
    rows = year_by(kind, number)
    names = [name[1:] for first, length, name in rows]
    odd = [name[0] for name in names if name[1]]
    return (number, rows[0][0], names, [length for first, length, name in rows], odd[0] if odd else None)


def unlike_by(kind, first, many):
    """Tell the numbers of the unlike years of so many, and how often each comes."""
    often = {}
    numbers = {}
    for number in range(first, first + many):
        looks = repr(fields_by(kind, number)[2:4])
        often[looks] = often.get(looks, 0) + 1
        numbers.setdefault(looks, number)
    return [(numbers[looks], often[looks]) for looks in often]


class FieldsTest(unittest.TestCase):
    def test_without_an_odd_month(self):
        year = Year(plain_calendar(), 0)
        self.assertEqual(told_of(year), (0, 0, PLAIN_NAMES, [29, 30] * 6, None))
        self.assertIs(year.odd, None)
        self.assertEqual((len(year), year.days_in()), (12, 354))

    def test_with_an_odd_month(self):
        year = Year(plain_calendar(), 2)
        self.assertEqual(told_of(year), (2, 708, ODD_NAMES, [29, 30] * 6 + [29], 8))
        self.assertEqual((len(year), year.days_in()), (13, 383))

    def test_an_odd_month_at_the_end(self):
        year = Year(plain_calendar(), -1)
        self.assertEqual(told_of(year), (-1, -384, PLAIN_NAMES + [(12, True)], [30, 29] * 6 + [30], 12))
        self.assertEqual((len(year), year.days_in()), (13, 384))

    def test_an_odd_month_behind_the_first(self):
        year = Year(plain_calendar(), 16)
        self.assertEqual((year.odd, year.names[:3]), (1, [(1, False), (1, True), (2, False)]))

    def test_twenty_figures(self):
        calendar = plain_calendar()
        due = (FAR, 36049382720104938271627, ODD_NAMES, [30, 29] * 6 + [30], 8)
        self.assertEqual(told_of(Year(calendar, FAR)), due)
        due = (-FAR, -36049382720104938271657, PLAIN_NAMES, [29, 30] * 6, None)
        self.assertEqual(told_of(Year(calendar, -FAR)), due)

    def test_by_keyword_and_kinds(self):
        year = Year(number=2, calendar=plain_calendar())
        self.assertEqual(told_of(year), told_of(Year(plain_calendar(), 2)))
        self.assertEqual((type(year.names), type(year.lengths)), (list, list))
        self.assertEqual({type(name) for name in year.names}, {tuple})
        self.assertEqual({type(name[1]) for name in year.names}, {bool})
        self.assertIs(type(year.days_in()), int)

    def test_same_as_by_going_through(self):
        for kind in KINDS:
            calendar = calendar_of(kind)
            for base in (-FAR, 0, FAR):
                for number in range(base - 25, base + 25):
                    self.assertEqual(told_of(Year(calendar, number)), fields_by(kind, number), (kind, number))

    def test_twelve_months_or_thirteen_and_one_of_them_odd(self):
        for kind in KINDS:
            calendar = calendar_of(kind)
            for number in (-FAR, *range(-30, 30), FAR):
                year = Year(calendar, number)
                odd = [name for name in year.names if name[1]]
                self.assertEqual(len(year), 12 + len(odd))
                self.assertLess(len(odd), 2)
                self.assertEqual([name for name in year.names if not name[1]], PLAIN_NAMES)
                self.assertEqual(odd, [] if year.odd is None else [(year.odd, True)])

    def test_a_year_ends_where_the_next_one_begins(self):
        for kind in KINDS:
            calendar = calendar_of(kind)
            for number in (-FAR, *range(-30, 30), FAR):
                year = Year(calendar, number)
                self.assertEqual(year.first, day_of(calendar, Date(number, 1, 1)))
                self.assertEqual(year.first + year.days_in(), Year(calendar, number + 1).first)
                self.assertEqual(year.days_in(), sum(year.lengths))

    def test_shares_of_twenty_figures(self):
        calendar = Calendar(Share(FAR * 3 // 10, FAR // 100 + 7), 370, Share(FAR, FAR - 1), Share(1 - FAR, FAR))
        year = Year(calendar, FAR)
        self.assertEqual(year.first + year.days_in(), Year(calendar, FAR + 1).first)


class EqualTest(EqualCase):
    def test_unlike_numbers(self):
        calendar = plain_calendar()
        self.alike(Year(calendar, 0), Year(calendar, 0))
        self.alike(Year(calendar, 0), Year(calendar, 1))
        self.alike(Year(calendar, 3), Year(calendar, -2))
        self.alike(Year(calendar, 2), Year(calendar, -14))
        self.alike(Year(calendar, -6), Year(calendar, FAR))

    def test_unlike_calendars(self):
        self.alike(Year(plain_calendar(), 1), Year(Calendar(Share(59, 2), 365, mark=Share(1, 12)), 1))
        self.alike(Year(plain_calendar(), 0), Year(Calendar(Share(59, 2), 366, 59, 59), 0))
        self.alike(Year(Calendar(30, 360), 0), Year(Calendar(30, 361, 7, 7), 0))

    def test_other_lengths(self):
        self.unlike(Year(plain_calendar(), 0), Year(plain_calendar(), 3))
        self.unlike(Year(plain_calendar(), 2), Year(plain_calendar(), -6))
        self.unlike(Year(plain_calendar(), 0), Year(Calendar(30, 360), 0))

    def test_other_names(self):
        # Both have thirteen months of the same lengths; the odd one is the eighth or the twelfth.
        one, two = Year(plain_calendar(), 2), Year(plain_calendar(), 7)
        self.assertEqual(one.lengths, two.lengths)
        self.unlike(one, two)
        # One has an odd month and the other none.
        self.unlike(Year(plain_calendar(), 0), Year(plain_calendar(), 2))

    def test_never_a_thing_of_another_kind(self):
        year = Year(plain_calendar(), 2)
        for other in (year.lengths, year.names, tuple(year.lengths), (year.names, year.lengths), str(year), repr(year),
                      2, None, Date(2, 1, 1), Year):
            self.unlike(year, other)


class WrittenTest(unittest.TestCase):
    def test_str(self):
        calendar = plain_calendar()
        self.assertEqual(str(Year(calendar, 0)), "29 30 29 30 29 30 29 30 29 30 29 30")
        self.assertEqual(str(Year(calendar, 2)), "29 30 29 30 29 30 29 30 29* 30 29 30 29")
        self.assertEqual(str(Year(calendar, -1)), "30 29 30 29 30 29 30 29 30 29 30 29 30*")
        self.assertEqual(str(Year(calendar, FAR)), "30 29 30 29 30 29 30 29 30* 29 30 29 30")
        self.assertEqual(str(Year(Calendar(1, 12), 5)), "1 1 1 1 1 1 1 1 1 1 1 1")
        self.assertEqual(str(Year(Calendar(123, 12 * 123), 5)), " ".join(["123"] * 12))
        long = FAR // 12
        self.assertEqual(str(Year(Calendar(long, 12 * long), -5)), " ".join([str(long)] * 12))

    def test_repr(self):
        calendar = plain_calendar()
        self.assertEqual(repr(Year(calendar, 7)), "Year(7)")
        self.assertEqual(repr(Year(calendar, 0)), "Year(0)")
        self.assertEqual(repr([Year(calendar, -12)]), "[Year(-12)]")
        self.assertEqual(repr(Year(calendar, -FAR)), "Year(-98765432109876543210)")


class KindsTest(unittest.TestCase):
    def test_few_years(self):
        told = kinds(plain_calendar(), 0, 5)
        due = [(Year(plain_calendar(), number), often) for number, often in ((0, 2), (2, 1), (3, 2))]
        self.assertEqual([(told_of(year), often) for year, often in told],
                         [(told_of(year), often) for year, often in due])
        self.assertEqual({type(row) for row in told}, {tuple})
        self.assertEqual({type(row[0]) for row in told}, {Year})

    def test_one_year(self):
        for number in (-FAR, -3, 0, FAR):
            self.assertEqual(repr(kinds(plain_calendar(), number, 1)), f"[(Year({number}), 1)]")

    def test_all_alike(self):
        self.assertEqual(repr(kinds(Calendar(30, 360), -7, 400)), "[(Year(-7), 400)]")

    def test_by_keyword(self):
        self.assertEqual(repr(kinds(many=19, first=0, calendar=plain_calendar())),
                         "[(Year(0), 6), (Year(2), 1), (Year(3), 6), (Year(5), 1), (Year(7), 1), (Year(10), 1), "
                         "(Year(13), 1), (Year(16), 1), (Year(18), 1)]")

    def test_same_as_by_going_through(self):
        for kind in KINDS:
            for first, many in ((0, 2), (-40, 60), (FAR, 30), (-FAR, 30)):
                told = kinds(calendar_of(kind), first, many)
                self.assertEqual([(year.number, often) for year, often in told], unlike_by(kind, first, many))

    def test_many_years(self):
        told = kinds(calendar_of(KINDS[1]), FAR, 400)
        self.assertEqual([(year.number, often) for year, often in told], unlike_by(KINDS[1], FAR, 400))
        self.assertEqual(sum(often for year, often in told), 400)


class OddYearsTest(unittest.TestCase):
    def test_few_years(self):
        calendar = plain_calendar()
        self.assertEqual(odd_years(calendar, -10, 20), [-9, -6, -3, -1, 2, 5, 7])
        self.assertEqual(odd_years(calendar, 2, 4), [2, 5])
        self.assertEqual(odd_years(calendar, 3, 2), [])
        self.assertEqual(odd_years(many=6, first=2, calendar=calendar), [2, 5, 7])

    def test_one_year(self):
        calendar = plain_calendar()
        self.assertEqual([odd_years(calendar, number, 1) for number in (-1, 0, 2, FAR, -FAR)],
                         [[-1], [], [2], [FAR], []])

    def test_none_and_nearly_all(self):
        self.assertEqual(odd_years(Calendar(30, 360), -FAR, 400), [])
        # A year lacks just a day of thirteen months.
        self.assertEqual(len(odd_years(Calendar(30, 389), 0, 30)), 29)

    def test_same_as_by_going_through(self):
        for kind in KINDS:
            for first, many in ((-40, 60), (FAR, 30), (-FAR, 30)):
                due = [number for number in range(first, first + many) if len(year_by(kind, number)) == 13]
                self.assertEqual(odd_years(calendar_of(kind), first, many), due)


class AgainTest(unittest.TestCase):
    def test_lists_are_the_askers_own(self):
        calendar = plain_calendar()
        year = Year(calendar, 2)
        due = told_of(Year(calendar, 2))
        year.names.append("more")
        year.lengths.clear()
        self.assertEqual(told_of(Year(calendar, 2)), due)
        told = kinds(calendar, 0, 19)
        due = repr(told)
        told[0][0].lengths[0] = 1
        told.reverse()
        self.assertEqual(repr(kinds(calendar, 0, 19)), due)
        told = odd_years(calendar, 0, 19)
        due = list(told)
        told.pop()
        self.assertEqual(odd_years(calendar, 0, 19), due)

    def test_the_calendar_stays(self):
        calendar = plain_calendar()
        Year(calendar, FAR)
        kinds(calendar, 0, 19)
        odd_years(calendar, 0, 19)
        self.assertEqual(repr(calendar), repr(plain_calendar()))

    def test_the_same_is_told_again(self):
        year = Year(plain_calendar(), 2)
        first = (str(year), repr(year), len(year), year.days_in(), repr(told_of(year)))
        self.assertEqual((str(year), repr(year), len(year), year.days_in(), repr(told_of(year))), first)


if __name__ == "__main__":
    unittest.main()
