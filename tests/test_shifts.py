"""Point [19], and of [2] and [3] what speaks of new years that are put off."""

import unittest

from meanmoon.calendars import Calendar
from meanmoon.shares import Share
from meanmoon.shifts import Shifted
from meanmoon.years import Year
from tests.samples import KINDS, calendar_of, year_by

FAR = 98765432109876543210


def not_on_rest_days(day):
    """Put off a day on the days 0, 3 and 5 of seven."""
    return 1 if day % 7 in (0, 3, 5) else 0


def always(day):
    return 3


def by_five(day):
    return (day % 5) % 4


RULES = ([], [not_on_rest_days], [always], [by_five, not_on_rest_days], [not_on_rest_days, by_five, always],
         [always, always, always], [lambda day: day % 4, lambda day: 3 if day % 4 else 0, not_on_rest_days])


def new_year_by(kind, rules, year):
    day = year_by(kind, year)[0][0]
    for rule in rules:
        day += rule(day)
    return day


def plain_calendar():
    # The years 0 to 6 begin on the days 0, 354, 708, 1091, 1445, 1799 and 2183.
    return Calendar(Share(59, 2), 365)


class NewYearTest(unittest.TestCase):
    def test_no_rule(self):
        shifted = Shifted(plain_calendar(), [])
        self.assertEqual([shifted.new_year(year) for year in range(7)], [0, 354, 708, 1091, 1445, 1799, 2183])
        self.assertEqual(shifted.new_year(-1), -384)

    def test_a_def(self):
        shifted = Shifted(plain_calendar(), [not_on_rest_days])
        # Of seven the days are 0, 4, 1, 6, 3, 0 and 6.
        self.assertEqual([shifted.new_year(year) for year in range(7)], [1, 354, 708, 1091, 1446, 1800, 2183])

    def test_a_lambda(self):
        shifted = Shifted(plain_calendar(), [lambda day: 2 if day == 354 else 0])
        self.assertEqual([shifted.new_year(year) for year in range(3)], [0, 356, 708])

    def test_each_rule_asks_of_the_day_that_came(self):
        asked = []

        def first(day):
            asked.append(("first", day))
            return 2

        def second(day):
            asked.append(("second", day))
            return 0 if day == 354 else 3

        def third(day):
            asked.append(("third", day))
            return 1 if day == 359 else 0

        self.assertEqual(Shifted(plain_calendar(), [first, second, third]).new_year(1), 360)
        self.assertEqual(asked, [("first", 354), ("second", 356), ("third", 359)])

    def test_the_order_of_the_rules(self):
        to_odd = lambda day: 1 - day % 2
        on_odd = lambda day: 2 if day % 2 else 0
        self.assertEqual(Shifted(plain_calendar(), [to_odd, on_odd]).new_year(0), 3)
        self.assertEqual(Shifted(plain_calendar(), [on_odd, to_odd]).new_year(0), 1)

    def test_one_rule_twice(self):
        self.assertEqual(Shifted(plain_calendar(), [always, always, always]).new_year(0), 9)

    def test_same_as_by_going_through(self):
        for kind in KINDS:
            calendar = calendar_of(kind)
            for rules in RULES:
                shifted = Shifted(calendar, rules)
                for year in (-FAR, *range(-12, 12), FAR):
                    self.assertEqual(shifted.new_year(year), new_year_by(kind, rules, year))

    def test_by_keyword(self):
        shifted = Shifted(rules=[always], calendar=plain_calendar())
        self.assertEqual((shifted.new_year(year=1), shifted.length_of(year=1), shifted.year_at(day=356)), (357, 354, 0))
        self.assertEqual(shifted.comes(many=2, first=1), [(354, 1), (383, 2)])


class LengthTest(unittest.TestCase):
    def test_no_rule(self):
        shifted = Shifted(plain_calendar(), [])
        for year in (-FAR, -3, -1, 0, 2, FAR):
            self.assertEqual(shifted.length_of(year), Year(plain_calendar(), year).days_in())

    def test_a_rule(self):
        shifted = Shifted(plain_calendar(), [not_on_rest_days])
        self.assertEqual([shifted.length_of(year) for year in range(6)], [353, 354, 383, 355, 354, 383])

    def test_same_as_by_going_through(self):
        for kind in KINDS:
            for rules in RULES:
                shifted = Shifted(calendar_of(kind), rules)
                for year in (-FAR, -7, 0, 3, FAR):
                    due = new_year_by(kind, rules, year + 1) - new_year_by(kind, rules, year)
                    self.assertEqual(shifted.length_of(year), due)


class YearAtTest(unittest.TestCase):
    def test_on_a_new_year_and_beside_it(self):
        shifted = Shifted(plain_calendar(), [always])
        self.assertEqual([shifted.year_at(day) for day in (356, 357, 358)], [0, 1, 1])
        # The days on which the year begins, but for the rule, are of the year ahead.
        self.assertEqual([shifted.year_at(day) for day in (-1, 0, 2, 3, 4)], [-1, -1, -1, 0, 0])

    def test_no_rule(self):
        shifted = Shifted(plain_calendar(), [])
        self.assertEqual([shifted.year_at(day) for day in (-385, -384, -1, 0, 353, 354)], [-2, -1, -1, 0, 0, 1])

    def test_each_day_of_some_years(self):
        for kind in KINDS:
            for rules in RULES:
                shifted = Shifted(calendar_of(kind), rules)
                for year in (-FAR, -1, 0, FAR):
                    first, behind = new_year_by(kind, rules, year), new_year_by(kind, rules, year + 1)
                    days = [first - 1, first, first + 1, (first + behind) // 2, behind - 1, behind]
                    self.assertLess(first, behind)
                    self.assertEqual([shifted.year_at(day) for day in days[:2]], [year - 1, year])
                    self.assertEqual([shifted.year_at(day) for day in days[2:]], [year, year, year, year + 1])

    def test_far_days(self):
        for kind in KINDS:
            for rules in RULES:
                shifted = Shifted(calendar_of(kind), rules)
                for day in (-FAR, FAR, -10 ** 19, 10 ** 19):
                    year = shifted.year_at(day)
                    self.assertLessEqual(shifted.new_year(year), day)
                    self.assertGreater(shifted.new_year(year + 1), day)

    def test_the_shortest_years_most_put_off(self):
        shifted = Shifted(Calendar(1, 12), [always, always, lambda day: 3 if day % 24 == 6 else 0])
        # New years are on 9, 18, 33, 42 and so on.
        due = [year for year in range(-6, 6) for day in range(shifted.length_of(year))]
        self.assertEqual([shifted.length_of(year) for year in range(4)], [9, 15, 9, 15])
        self.assertEqual([shifted.year_at(day) for day in range(-63, 81)], due)


class ComesTest(unittest.TestCase):
    def test_one_year(self):
        shifted = Shifted(plain_calendar(), [not_on_rest_days])
        self.assertEqual(shifted.comes(0, 1), [(353, 0)])
        self.assertEqual(shifted.comes(FAR, 1), [(shifted.length_of(FAR), FAR)])

    def test_some_years(self):
        shifted = Shifted(plain_calendar(), [not_on_rest_days])
        self.assertEqual(shifted.comes(0, 6), [(353, 0), (354, 1), (355, 3), (383, 2)])
        self.assertEqual(shifted.comes(1, 5), [(354, 1), (355, 3), (383, 2)])

    def test_no_rule(self):
        self.assertEqual(Shifted(Calendar(30, 360), []).comes(-7, 400), [(360, -7)])
        self.assertEqual(Shifted(plain_calendar(), []).comes(-3, 20), [(354, -2), (383, -3), (384, -1)])

    def test_many_years(self):
        for kind in KINDS:
            for rules in RULES[1:5]:
                shifted = Shifted(calendar_of(kind), rules)
                for first, many in ((-40, 60), (FAR, 400)):
                    lengths = [shifted.length_of(year) for year in range(first, first + many)]
                    due = [(length, first + lengths.index(length)) for length in sorted(set(lengths))]
                    self.assertEqual(shifted.comes(first, many), due)

    def test_kinds_of_values(self):
        told = Shifted(plain_calendar(), []).comes(0, 3)
        self.assertEqual((type(told), {type(row) for row in told}), (list, {tuple}))


class AgainTest(unittest.TestCase):
    def test_the_list_of_rules_stays_and_its_change_changes_nothing(self):
        rules = [not_on_rest_days, always]
        shifted = Shifted(plain_calendar(), rules)
        first = [shifted.new_year(year) for year in range(-9, 9)]
        self.assertEqual(rules, [not_on_rest_days, always])
        rules.append(always)
        rules[0] = always
        self.assertEqual([shifted.new_year(year) for year in range(-9, 9)], first)
        rules.clear()
        self.assertEqual([shifted.new_year(year) for year in range(-9, 9)], first)

    def test_lists_are_the_askers_own(self):
        shifted = Shifted(plain_calendar(), [not_on_rest_days])
        told = shifted.comes(0, 19)
        due = list(told)
        told.clear()
        self.assertEqual(shifted.comes(0, 19), due)

    def test_two_of_one_calendar(self):
        calendar = plain_calendar()
        one, two = Shifted(calendar, [always]), Shifted(calendar, [])
        self.assertEqual((one.new_year(1), two.new_year(1), one.new_year(1)), (357, 354, 357))
        self.assertEqual(repr(calendar), repr(plain_calendar()))

    def test_shares_of_twenty_figures(self):
        calendar = Calendar(Share(FAR * 3 // 10, FAR // 100 + 7), 370, Share(FAR, FAR - 1), Share(1 - FAR, FAR))
        shifted = Shifted(calendar, [not_on_rest_days, by_five])
        day = shifted.new_year(FAR)
        self.assertEqual([shifted.year_at(day - 1), shifted.year_at(day)], [FAR - 1, FAR])


if __name__ == "__main__":
    unittest.main()
