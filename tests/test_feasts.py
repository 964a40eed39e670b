"""Points [22] and [23], and of [2] and [3] what speaks of feasts."""

import unittest

from meanmoon.calendars import Calendar
from meanmoon.errors import NoName, Taken
from meanmoon.feasts import Feast, Feasts, feast_days
from meanmoon.shares import Share
from tests.samples import KINDS, calendar_of, year_by

FAR = 98765432109876543210
WHENS = ("plain", "odd", "both")


def plain_calendar():
    # Year 2 begins on day 708; its month 8 on day 914 (30 days), the odd one on 944 (29 days), month 9 on 973.
    # Years 0 and 1 have no odd month, year 5 has one of another number.
    return Calendar(Share(59, 2), 365)


def days_by(kind, number, day, when, year):
    """Tell the days of a feast by going through the months of the year."""
    falls = {odd: first + min(day, length) - 1 for first, length, name in year_by(kind, year)
             for odd in (name[2],) if name[1] == number}
    if when == "both":
        return sorted(falls.values())
    return [falls[True] if when == "odd" and True in falls else falls[False]]


def book_of(calendar, *feasts):
    book = Feasts(calendar)
    for feast in feasts:
        book.add(feast)
    return book


def rows_by(kind, told, year):
    """Tell what in_year must tell of feasts, each told as a tuple."""
    return sorted((day, name) for name, number, count, when in told for day in days_by(kind, number, count, when, year))


FORTY = [(f"f{at}", at % 12 + 1, at * 7 % 33 + 1, WHENS[at % 3]) for at in range(40)]


class FeastTest(unittest.TestCase):
    def test_fields(self):
        feast = Feast("new moon", 3, 1)
        self.assertEqual((feast.name, feast.number, feast.day, feast.when), ("new moon", 3, 1, "plain"))
        feast = Feast("", 12, FAR, "both")
        self.assertEqual((feast.name, feast.number, feast.day, feast.when), ("", 12, FAR, "both"))
        feast = Feast(when="odd", day=2, number=1, name="x")
        self.assertEqual((feast.name, feast.number, feast.day, feast.when), ("x", 1, 2, "odd"))


class FeastDaysTest(unittest.TestCase):
    def told(self, when, year, number=8, day=5):
        return feast_days(plain_calendar(), Feast("x", number, day, when), year)

    def test_with_an_odd_month_of_the_number(self):
        self.assertEqual(feast_days(plain_calendar(), Feast("x", 8, 5), 2), [918])
        self.assertEqual(self.told("plain", 2), [918])
        self.assertEqual(self.told("odd", 2), [948])
        self.assertEqual(self.told("both", 2), [918, 948])

    def test_with_an_odd_month_of_another_number(self):
        for when in WHENS:
            self.assertEqual(self.told(when, 2, number=7), [889])
            self.assertEqual(self.told(when, 2, number=9), [977])
            self.assertEqual(self.told(when, 5), [2039])

    def test_without_an_odd_month(self):
        for when in WHENS:
            self.assertEqual(self.told(when, 0), [210])
            self.assertEqual(self.told(when, 1, number=1, day=1), [354])

    def test_days_at_the_end_of_the_month(self):
        # Months 1 and 8 of year 2 have 29 and 30 days, the odd one 29.
        self.assertEqual([self.told("plain", 2, 1, day) for day in (28, 29, 30, 31, FAR)],
                         [[735], [736], [736], [736], [736]])
        self.assertEqual([self.told("both", 2, 8, day) for day in (1, 29, 30, 31, FAR)],
                         [[914, 944], [942, 972], [943, 972], [943, 972], [943, 972]])
        self.assertEqual([self.told("odd", 2, 8, day) for day in (29, 30)], [[972], [972]])

    def test_below_nought_and_far(self):
        self.assertEqual(self.told("both", -1, 12, 30), [-31, -1])
        self.assertEqual(self.told("odd", -1, 12, 30), [-1])
        self.assertEqual(self.told("plain", -1, 12, 30), [-31])
        due = days_by(KINDS[0], 8, 30, "both", FAR)
        self.assertEqual(self.told("both", FAR, 8, 30), due)
        self.assertEqual(len(due), 2)

    def test_by_keyword(self):
        told = feast_days(year=2, feast=Feast("x", 8, 5, "both"), calendar=plain_calendar())
        self.assertEqual((told, type(told)), ([918, 948], list))

    def test_same_as_by_going_through(self):
        for kind in KINDS:
            calendar = calendar_of(kind)
            for year in (-FAR, *range(-5, 6), FAR):
                for number in range(1, 13):
                    for when in WHENS:
                        for day in (1, 2, 14, 29, 30, 31):
                            told = feast_days(calendar, Feast("x", number, day, when), year)
                            self.assertEqual(told, days_by(kind, number, day, when, year))

    def test_lists_are_the_askers_own(self):
        calendar, feast = plain_calendar(), Feast("x", 8, 5, "both")
        feast_days(calendar, feast, 2).clear()
        self.assertEqual(feast_days(calendar, feast, 2), [918, 948])
        self.assertEqual((feast.name, feast.number, feast.day, feast.when), ("x", 8, 5, "both"))
        self.assertEqual(repr(calendar), repr(plain_calendar()))


class BookTest(unittest.TestCase):
    def test_without_feasts(self):
        book = Feasts(plain_calendar())
        self.assertEqual((book.called(), book.on_day(0), book.in_year(FAR)), ([], [], []))
        self.assertIs(book.next_feast(FAR), None)

    def test_one_feast(self):
        book = Feasts(plain_calendar())
        self.assertIs(book.add(Feast("x", 8, 5, "both")), None)
        self.assertEqual(book.called(), ["x"])
        self.assertEqual([book.on_day(day) for day in (917, 918, 919, 948)], [[], ["x"], [], ["x"]])
        self.assertEqual(book.in_year(2), [(918, "x"), (948, "x")])
        self.assertEqual(book.in_year(0), [(210, "x")])
        self.assertIs(book.drop("x"), None)
        self.assertEqual((book.called(), book.on_day(918), book.in_year(2)), ([], [], []))
        self.assertIs(book.next_feast(0), None)

    def test_called_is_sorted(self):
        book = book_of(plain_calendar(), *[Feast(name, 1, 1) for name in ("b", "", "a", "B", "ab", "10", "9")])
        self.assertEqual(book.called(), ["", "10", "9", "B", "a", "ab", "b"])
        book.drop("a")
        book.add(Feast("c", 1, 1))
        self.assertEqual(book.called(), ["", "10", "9", "B", "ab", "b", "c"])

    def test_several_on_a_day(self):
        book = book_of(plain_calendar(), Feast("z", 8, 5, "odd"), Feast("a", 8, 5, "both"), Feast("m", 8, 5),
                       Feast("k", 8, 6))
        self.assertEqual(book.on_day(918), ["a", "m"])
        self.assertEqual(book.on_day(948), ["a", "z"])
        self.assertEqual(book.on_day(919), ["k"])
        self.assertEqual(book.on_day(210), ["a", "m", "z"])
        self.assertEqual(book.in_year(2), [(918, "a"), (918, "m"), (919, "k"), (948, "a"), (948, "z")])

    def test_first_and_last_day_of_a_year(self):
        book = book_of(plain_calendar(), Feast("last", 12, 30, "odd"), Feast("first", 1, 1))
        self.assertEqual(book.in_year(-1), [(-384, "first"), (-1, "last")])
        self.assertEqual(book.in_year(0), [(0, "first"), (353, "last")])
        self.assertEqual([book.on_day(day) for day in (-385, -384, -1, 0, 353, 354)],
                         [["last"], ["first"], ["last"], ["first"], ["last"], ["first"]])

    def test_by_keyword(self):
        book = Feasts(calendar=plain_calendar())
        book.add(feast=Feast("x", 8, 5))
        book.add(feast=Feast("y", 8, 6))
        self.assertEqual((book.on_day(day=918), book.in_year(year=2)), (["x"], [(918, "x"), (919, "y")]))
        self.assertEqual(book.next_feast(name="y", day=0), (211, "y"))
        book.drop(name="x")
        self.assertEqual(book.called(), ["y"])

    def test_forty_feasts(self):
        for kind in KINDS:
            book = book_of(calendar_of(kind), *[Feast(*row) for row in FORTY])
            self.assertEqual(book.called(), sorted(row[0] for row in FORTY))
            for year in (-FAR, -2, 0, 3, FAR):
                due = rows_by(kind, FORTY, year)
                self.assertEqual(book.in_year(year), due)
                for first, length, name in year_by(kind, year)[::4]:
                    for day in range(first, first + length):
                        self.assertEqual(book.on_day(day), [name for there, name in due if there == day])

    def test_two_books_of_one_calendar(self):
        calendar = plain_calendar()
        one, two = Feasts(calendar), Feasts(calendar)
        feast = Feast("x", 8, 5)
        one.add(feast)
        self.assertEqual((one.called(), two.called()), (["x"], []))
        two.add(feast)
        one.drop("x")
        self.assertEqual((one.called(), two.called()), ([], ["x"]))
        self.assertEqual(repr(calendar), repr(plain_calendar()))


class RefusedTest(unittest.TestCase):
    def setUp(self):
        self.book = book_of(plain_calendar(), Feast("x", 8, 5), Feast("", 1, 1))
        self.kept = self.looks()

    def looks(self):
        return (self.book.called(), self.book.in_year(2), self.book.next_feast(0))

    def refused(self, error, deed, *handed_in):
        with self.assertRaises(error) as caught:
            deed(*handed_in)
        self.assertEqual(self.looks(), self.kept)
        return caught.exception.name

    def test_a_name_that_is_in(self):
        self.assertEqual(self.refused(Taken, self.book.add, Feast("x", 3, 7, "both")), "x")
        self.assertEqual(self.refused(Taken, self.book.add, Feast("", 1, 2)), "")
        self.assertTrue(issubclass(Taken, ValueError))

    def test_a_name_that_is_not_in(self):
        for name in ("y", "X", " ", "x "):
            self.assertEqual(self.refused(NoName, self.book.drop, name), name)
            self.assertEqual(self.refused(NoName, self.book.next_feast, 0, name), name)
        self.assertTrue(issubclass(NoName, KeyError))

    def test_a_name_that_was_dropped(self):
        self.book.drop("")
        self.kept = self.looks()
        self.assertEqual(self.refused(NoName, self.book.drop, ""), "")
        self.assertEqual(self.refused(NoName, self.book.next_feast, 5, ""), "")
        # The name is free again, for another feast.
        self.book.add(Feast("", 2, 2))
        self.assertEqual(self.book.in_year(0), [(30, ""), (210, "x")])

    def test_in_a_book_without_feasts(self):
        book = Feasts(plain_calendar())
        for name in ("x", ""):
            with self.assertRaises(NoName) as caught:
                book.next_feast(0, name)
            self.assertEqual(caught.exception.name, name)
            with self.assertRaises(NoName):
                book.drop(name)


class NextTest(unittest.TestCase):
    def test_on_the_day_and_behind_it(self):
        book = book_of(plain_calendar(), Feast("x", 8, 5), Feast("y", 8, 7))
        self.assertEqual([book.next_feast(day) for day in (0, 210, 211, 212)],
                         [(210, "x"), (210, "x"), (212, "y"), (212, "y")])
        self.assertIs(type(book.next_feast(0)), tuple)

    def test_over_the_end_of_a_year(self):
        book = book_of(plain_calendar(), Feast("x", 8, 5), Feast("y", 8, 7))
        self.assertEqual([book.next_feast(day) for day in (213, 353, 354)], [(564, "x")] * 3)
        self.assertEqual(book.next_feast(-300), (-173, "x"))

    def test_of_a_name_alone(self):
        book = book_of(plain_calendar(), Feast("x", 8, 5), Feast("y", 8, 7), Feast("", 1, 1))
        self.assertEqual(book.next_feast(0, "y"), (212, "y"))
        self.assertEqual(book.next_feast(212, "y"), (212, "y"))
        self.assertEqual(book.next_feast(213, "y"), (566, "y"))
        self.assertEqual(book.next_feast(1, ""), (354, ""))
        self.assertEqual(book.next_feast(0, ""), (0, ""))
        self.assertEqual(book.next_feast(1, None), (210, "x"))

    def test_the_least_name_of_a_day(self):
        book = book_of(plain_calendar(), Feast("b", 8, 5), Feast("a", 8, 5), Feast("c", 8, 5))
        self.assertEqual(book.next_feast(0), (210, "a"))
        self.assertEqual(book.next_feast(0, "c"), (210, "c"))

    def test_a_feast_of_odd_months(self):
        # In a year without an odd month of its number it falls in the plain one.
        book = book_of(plain_calendar(), Feast("x", 8, 5, "odd"))
        self.assertEqual([book.next_feast(day) for day in (210, 211, 565, 918, 948, 949)],
                         [(210, "x"), (564, "x"), (948, "x"), (948, "x"), (948, "x"), (1302, "x")])

    def test_a_feast_of_both_months(self):
        book = book_of(plain_calendar(), Feast("x", 8, 5, "both"))
        self.assertEqual([book.next_feast(day) for day in (565, 918, 919, 948, 949)],
                         [(918, "x"), (918, "x"), (948, "x"), (948, "x"), (1302, "x")])

    def test_same_as_by_going_through(self):
        for kind in KINDS:
            for told in (FORTY[:1], FORTY[1:2], FORTY[2:3], FORTY):
                book = book_of(calendar_of(kind), *[Feast(*row) for row in told])
                for year in (-FAR, -1, 2, FAR):
                    rows = rows_by(kind, told, year) + rows_by(kind, told, year + 1)
                    for first, length, name in year_by(kind, year)[::5]:
                        for day in (first, first + length - 1):
                            self.assertEqual(book.next_feast(day), min(row for row in rows if row[0] >= day))
                            due = min(row for row in rows if row[0] >= day and row[1] == told[-1][0])
                            self.assertEqual(book.next_feast(day, told[-1][0]), due)

    def test_far_days(self):
        book = book_of(plain_calendar(), Feast("x", 8, 5, "both"), Feast("y", 12, 30))
        for day in (-FAR, FAR):
            there, name = book.next_feast(day)
            self.assertLess(there - day, 400)
            self.assertIn(name, book.on_day(there))


class AgainTest(unittest.TestCase):
    def test_lists_are_the_askers_own(self):
        book = book_of(plain_calendar(), Feast("x", 8, 5), Feast("y", 8, 5))
        book.called().pop()
        book.on_day(918).append("z")
        book.in_year(2).clear()
        self.assertEqual((book.called(), book.on_day(918)), (["x", "y"], ["x", "y"]))
        self.assertEqual(book.in_year(2), [(918, "x"), (918, "y")])

    def test_the_same_is_told_again_but_for_what_was_put_in(self):
        book = book_of(plain_calendar(), Feast("x", 8, 5))
        self.assertEqual([book.next_feast(0), book.next_feast(0)], [(210, "x"), (210, "x")])
        book.add(Feast("w", 1, 9))
        self.assertEqual([book.next_feast(0), book.next_feast(0)], [(8, "w"), (8, "w")])


if __name__ == "__main__":
    unittest.main()
