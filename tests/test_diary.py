"""Points [29] and [30], and of [2] and [3] what speaks of diaries."""

import unittest

from meanmoon.calendars import Calendar
from meanmoon.dates import Date, date_of
from meanmoon.diary import Diary
from meanmoon.errors import NoDate, NoDeed, NoNote, NoText
from meanmoon.shares import Share
from tests.samples import KINDS, calendar_of

FAR = 98765432109876543210
FAR_DATE = f"{FAR}-08*-30"
DATES = ("2-08-30", "2-08*-01", "2-09-01", "0-01-01", "-1-12*-30", FAR_DATE)


def plain_calendar():
    # Year 2 has an odd month 8 of 29 days behind the plain one of 30; years 0 and 1 have no odd month.
    return Calendar(Share(59, 2), 365)


def of_notes(*rows):
    diary = Diary(plain_calendar())
    for date, text in rows:
        diary.note(date, text)
    return diary


def looks(diary):
    """Tell all that the tests can ask of a diary."""
    notes = [diary.notes_on(date) for date in DATES]
    return (notes, [diary.noted(year) for year in (-1, 0, 1, 2, FAR)], diary.in_all())


class NoteTest(unittest.TestCase):
    def test_without_notes(self):
        diary = Diary(plain_calendar())
        self.assertEqual(looks(diary), ([[]] * 6, [[]] * 5, 0))

    def test_behind_those_of_the_date(self):
        diary = Diary(plain_calendar())
        self.assertIs(diary.note("2-08*-01", "one"), None)
        diary.note("2-08*-01", "two")
        diary.note("2-08-30", "three")
        diary.note("2-08*-01", "one")
        diary.note("2-08*-01", "")
        self.assertEqual(diary.notes_on("2-08*-01"), ["one", "two", "one", ""])
        self.assertEqual(diary.notes_on("2-08-30"), ["three"])
        self.assertEqual(diary.notes_on("2-08-01"), [])
        self.assertEqual(diary.in_all(), 5)

    def test_far_dates(self):
        diary = of_notes((FAR_DATE, "far"), (f"-{FAR}-01-01", "ahead"))
        self.assertEqual((diary.notes_on(FAR_DATE), diary.notes_on(f"-{FAR}-01-01")), (["far"], ["ahead"]))
        self.assertEqual(diary.noted(FAR), [(FAR_DATE, 1)])
        self.assertEqual(diary.noted(-FAR), [(f"-{FAR}-01-01", 1)])

    def test_by_keyword(self):
        diary = Diary(calendar=plain_calendar())
        diary.note(text="one", date="2-09-01")
        diary.note(text="two", date="2-09-01")
        diary.strike(at=0, date="2-09-01")
        diary.moved(other="0-01-01", date="2-09-01")
        self.assertEqual((diary.notes_on(date="0-01-01"), diary.noted(year=0)), (["two"], [("0-01-01", 1)]))

    def test_two_diaries_of_one_calendar(self):
        calendar = plain_calendar()
        one, two = Diary(calendar), Diary(calendar)
        one.note("0-01-01", "one")
        self.assertEqual((one.notes_on("0-01-01"), two.notes_on("0-01-01"), two.in_all()), (["one"], [], 0))
        two.note("0-01-01", "two")
        one.undo()
        self.assertEqual((one.notes_on("0-01-01"), two.notes_on("0-01-01")), ([], ["two"]))
        self.assertEqual(repr(calendar), repr(plain_calendar()))


class StrikeTest(unittest.TestCase):
    def setUp(self):
        self.diary = of_notes(*[("2-09-01", text) for text in ("a", "b", "c", "a")], ("2-08-30", "d"))

    def test_first_last_and_between(self):
        self.assertIs(self.diary.strike("2-09-01", 0), None)
        self.assertEqual(self.diary.notes_on("2-09-01"), ["b", "c", "a"])
        self.diary.strike("2-09-01", 2)
        self.assertEqual(self.diary.notes_on("2-09-01"), ["b", "c"])
        self.diary.strike("2-09-01", 1)
        self.diary.strike("2-09-01", 0)
        self.assertEqual((self.diary.notes_on("2-09-01"), self.diary.noted(2), self.diary.in_all()),
                         ([], [("2-08-30", 1)], 1))

    def test_the_last_of_two_that_are_alike(self):
        self.diary.strike("2-09-01", 3)
        self.assertEqual(self.diary.notes_on("2-09-01"), ["a", "b", "c"])

    def test_places_that_have_none(self):
        kept = looks(self.diary)
        for date, at in (("2-09-01", 4), ("2-09-01", 5), ("2-09-01", -1), ("2-09-01", -4), ("2-09-01", FAR),
                         ("2-09-01", -FAR), ("2-08-30", 1), ("2-08-30", -1), ("0-01-01", 0), ("0-01-01", -1)):
            with self.assertRaises(NoNote) as caught:
                self.diary.strike(date, at)
            self.assertEqual(caught.exception.at, at)
            self.assertIsInstance(caught.exception, IndexError)
            self.assertEqual(looks(self.diary), kept)


class MovedTest(unittest.TestCase):
    def test_behind_those_of_the_other(self):
        diary = of_notes(("2-08-30", "a"), ("2-08*-01", "x"), ("2-08-30", "b"), ("2-08*-01", "y"))
        self.assertIs(diary.moved("2-08-30", "2-08*-01"), None)
        self.assertEqual((diary.notes_on("2-08-30"), diary.notes_on("2-08*-01")), ([], ["x", "y", "a", "b"]))
        self.assertEqual((diary.in_all(), diary.noted(2)), (4, [("2-08*-01", 4)]))
        diary.note("2-08-30", "c")
        self.assertEqual((diary.notes_on("2-08-30"), diary.notes_on("2-08*-01")), (["c"], ["x", "y", "a", "b"]))

    def test_to_a_date_without_notes(self):
        diary = of_notes(("2-08-30", "a"), ("2-08-30", "b"))
        diary.moved("2-08-30", FAR_DATE)
        self.assertEqual((diary.notes_on("2-08-30"), diary.notes_on(FAR_DATE)), ([], ["a", "b"]))

    def test_none(self):
        diary = of_notes(("2-08-30", "a"))
        kept = looks(diary)
        diary.moved("2-09-01", "2-08-30")
        self.assertEqual(looks(diary), kept)
        diary.moved("2-09-01", "0-01-01")
        self.assertEqual(looks(diary), kept)

    def test_to_itself(self):
        diary = of_notes(("2-08-30", "a"), ("2-08-30", "b"))
        kept = looks(diary)
        diary.moved("2-08-30", "2-08-30")
        diary.moved("2-09-01", "2-09-01")
        self.assertEqual(looks(diary), kept)


class RefusedTest(unittest.TestCase):
    def setUp(self):
        self.diary = of_notes(("2-08-30", "a"), ("2-08-30", "b"), ("0-01-01", "c"))
        self.kept = looks(self.diary)

    def no_text(self, at, deed, *handed_in):
        with self.assertRaises(NoText, msg=handed_in) as caught:
            deed(*handed_in)
        self.assertEqual(caught.exception.at, at)
        self.assertEqual(looks(self.diary), self.kept)

    def no_date(self, date, why, deed, *handed_in):
        with self.assertRaises(NoDate, msg=handed_in) as caught:
            deed(*handed_in)
        self.assertEqual((caught.exception.date, caught.exception.why), (date, why))
        self.assertEqual(looks(self.diary), self.kept)

    def each(self, date):
        """Tell each deed and question to which a date is handed in, with all that is handed in."""
        diary = self.diary
        return ((diary.note, date, "x"), (diary.strike, date, 0), (diary.strike, date, 9), (diary.strike, date, -1),
                (diary.moved, date, "0-01-01"), (diary.moved, "2-08-30", date), (diary.moved, date, date),
                (diary.notes_on, date))

    def test_texts_that_write_no_date(self):
        for text in ("", "2-8-30", "2-08-30 ", "2-08-30\n", "02-08-30", "2-08*30", "today", "-0-01-01"):
            for row in self.each(text):
                self.no_text(text, *row)

    def test_dates_that_the_calendar_has_not(self):
        for text, date, why in (("2-13-01", Date(2, 13, 1), "number"), ("2-00*-99", Date(2, 0, 99, True), "number"),
                                ("2-07*-01", Date(2, 7, 1, True), "odd"), ("0-08*-99", Date(0, 8, 99, True), "odd"),
                                ("2-08-31", Date(2, 8, 31), "day"), ("2-08*-30", Date(2, 8, 30, True), "day"),
                                ("2-08-00", Date(2, 8, 0), "day")):
            for row in self.each(text):
                self.no_date(date, why, *row)

    def test_of_moved_the_first_ahead_of_the_other(self):
        moved = self.diary.moved
        self.no_text("x", moved, "x", "y")
        self.no_text("x", moved, "x", "2-13-01")
        self.no_date(Date(2, 13, 1), "number", moved, "2-13-01", "y")
        self.no_date(Date(2, 13, 1), "number", moved, "2-13-01", "2-08-31")
        self.no_date(Date(2, 8, 31), "day", moved, "2-08-31", "2-13-01")
        self.no_text("y", moved, "2-08-30", "y")

    def test_what_is_refused_is_not_taken_back(self):
        diary = self.diary
        for row in (*self.each("x"), *self.each("2-13-01"), (diary.strike, "2-08-30", 2), (diary.strike, "2-09-01", 0)):
            with self.assertRaises((NoText, NoDate, NoNote)):
                row[0](*row[1:])
        # The last deed is still the note of the first day.
        diary.undo()
        self.assertEqual((diary.notes_on("0-01-01"), diary.notes_on("2-08-30")), ([], ["a", "b"]))
        diary.undo()
        diary.undo()
        self.assertEqual(diary.in_all(), 0)
        with self.assertRaises(NoDeed):
            diary.undo()


class UndoTest(unittest.TestCase):
    def nothing_left(self, diary):
        kept = looks(diary)
        with self.assertRaises(NoDeed) as caught:
            diary.undo()
        self.assertIsInstance(caught.exception, RuntimeError)
        self.assertEqual(looks(diary), kept)

    def test_nothing_done(self):
        self.nothing_left(Diary(plain_calendar()))

    def test_a_note(self):
        diary = of_notes(("2-08-30", "a"), ("2-08-30", "b"))
        self.assertIs(diary.undo(), None)
        self.assertEqual(diary.notes_on("2-08-30"), ["a"])
        diary.undo()
        self.assertEqual((diary.notes_on("2-08-30"), diary.noted(2), diary.in_all()), ([], [], 0))
        self.nothing_left(diary)
        self.nothing_left(diary)

    def test_a_strike(self):
        for at in range(3):
            diary = of_notes(*[("2-08-30", text) for text in "aba"])
            diary.strike("2-08-30", at)
            diary.undo()
            self.assertEqual(diary.notes_on("2-08-30"), ["a", "b", "a"])

    def test_a_moved(self):
        diary = of_notes(("2-08-30", "a"), ("2-08*-01", "x"), ("2-08-30", "b"))
        kept = looks(diary)
        diary.moved("2-08-30", "2-08*-01")
        diary.undo()
        self.assertEqual(looks(diary), kept)
        diary.undo()
        self.assertEqual(diary.notes_on("2-08-30"), ["a"])

    def test_a_moved_of_none_and_to_itself(self):
        # These are deeds too, though nothing was otherwise.
        for date, other in (("2-09-01", "2-08-30"), ("2-09-01", "2-09-01"), ("2-08-30", "2-08-30")):
            diary = of_notes(("2-08-30", "a"), ("2-08-30", "b"))
            kept = looks(diary)
            diary.moved(date, other)
            diary.undo()
            self.assertEqual(looks(diary), kept)
            diary.undo()
            self.assertEqual(diary.notes_on("2-08-30"), ["a"])

    def test_behind_a_new_deed(self):
        diary = of_notes(("2-08-30", "a"), ("2-08-30", "b"))
        diary.undo()
        diary.note("2-08-30", "c")
        diary.strike("2-08-30", 0)
        self.assertEqual(diary.notes_on("2-08-30"), ["c"])
        diary.undo()
        self.assertEqual(diary.notes_on("2-08-30"), ["a", "c"])
        diary.undo()
        self.assertEqual(diary.notes_on("2-08-30"), ["a"])
        diary.undo()
        self.assertEqual(diary.notes_on("2-08-30"), [])
        self.nothing_left(diary)
        diary.note("2-08-30", "d")
        self.assertEqual(diary.notes_on("2-08-30"), ["d"])
        diary.undo()
        self.nothing_left(diary)

    def test_two_hundred_deeds(self):
        diary = Diary(plain_calendar())
        ahead = []
        for at in range(200):
            date, other = DATES[at * at % 6], DATES[at * 7 % 5]
            ahead.append(looks(diary))
            many = len(diary.notes_on(date))
            if at % 7 == 3:
                diary.moved(date, other)
            elif at % 4 == 1 and many > 0:
                diary.strike(date, at % many)
            else:
                diary.note(date, f"note {at}")
        self.assertGreater(diary.in_all(), 50)
        for due in reversed(ahead):
            diary.undo()
            self.assertEqual(looks(diary), due)
        self.nothing_left(diary)


class NotedTest(unittest.TestCase):
    def test_by_days(self):
        dates = ("2-12-01", "2-08*-29", "2-09-01", "2-08-30", "2-08*-01", "2-10-01", "2-09-01", "3-01-01", "1-12-01")
        diary = of_notes(*[(date, "x") for date in dates])
        self.assertEqual(diary.noted(2), [("2-08-30", 1), ("2-08*-01", 1), ("2-08*-29", 1), ("2-09-01", 2),
                                          ("2-10-01", 1), ("2-12-01", 1)])
        self.assertEqual((diary.noted(1), diary.noted(3), diary.noted(4)), ([("1-12-01", 1)], [("3-01-01", 1)], []))
        self.assertEqual(diary.in_all(), 9)

    def test_first_and_last_day_of_a_year(self):
        diary = of_notes(("-1-12*-30", "last"), ("0-01-01", "first"), ("-1-01-01", "first"), ("0-12-30", "last"))
        self.assertEqual(diary.noted(-1), [("-1-01-01", 1), ("-1-12*-30", 1)])
        self.assertEqual(diary.noted(0), [("0-01-01", 1), ("0-12-30", 1)])

    def test_behind_each_deed(self):
        diary = of_notes(("2-08-30", "a"), ("2-08-30", "b"), ("0-01-01", "c"))
        self.assertEqual((diary.noted(2), diary.noted(0), diary.in_all()), ([("2-08-30", 2)], [("0-01-01", 1)], 3))
        diary.strike("0-01-01", 0)
        self.assertEqual((diary.noted(2), diary.noted(0), diary.in_all()), ([("2-08-30", 2)], [], 2))
        diary.moved("2-08-30", "0-01-01")
        self.assertEqual((diary.noted(2), diary.noted(0), diary.in_all()), ([], [("0-01-01", 2)], 2))
        diary.undo()
        self.assertEqual((diary.noted(2), diary.noted(0), diary.in_all()), ([("2-08-30", 2)], [], 2))
        diary.undo()
        self.assertEqual((diary.noted(2), diary.noted(0), diary.in_all()), ([("2-08-30", 2)], [("0-01-01", 1)], 3))

    def test_every_calendar(self):
        for kind in KINDS:
            calendar = calendar_of(kind)
            diary = Diary(calendar)
            days = [day * 5 % 101 - 50 for day in range(100)]
            for day in days:
                for at in range(day % 3):
                    diary.note(str(date_of(calendar, day)), f"{day} {at}")
            self.assertEqual(diary.in_all(), sum(day % 3 for day in days))
            for day in days:
                self.assertEqual(diary.notes_on(str(date_of(calendar, day))), [f"{day} {at}" for at in range(day % 3)])
            for year in range(-9, 10):
                dates = [(date_of(calendar, day), day % 3) for day in sorted(days) if day % 3]
                self.assertEqual(diary.noted(year), [(str(date), many) for date, many in dates if date.year == year])


class AgainTest(unittest.TestCase):
    def test_lists_are_the_askers_own(self):
        diary = of_notes(("2-08-30", "a"), ("2-08-30", "b"))
        diary.strike("2-08-30", 0)
        kept = looks(diary)
        diary.notes_on("2-08-30").append("c")
        diary.notes_on("2-08-30").clear()
        diary.notes_on("2-09-01").append("c")
        diary.noted(2).clear()
        diary.noted(0).append("c")
        self.assertEqual(looks(diary), kept)
        self.assertEqual(looks(diary), kept)
        diary.undo()
        self.assertEqual(diary.notes_on("2-08-30"), ["a", "b"])

    def test_told_lists_changed_between_deeds(self):
        diary = of_notes(("2-08-30", "a"))
        told = diary.notes_on("2-08-30")
        diary.note("2-08-30", "b")
        self.assertEqual(told, ["a"])
        told.append("z")
        diary.moved("2-08-30", "2-09-01")
        diary.undo()
        diary.undo()
        self.assertEqual(diary.notes_on("2-08-30"), ["a"])

    def test_kinds_of_values(self):
        diary = of_notes(("2-08-30", "a"))
        row = diary.noted(2)[0]
        told = (diary.notes_on("2-08-30"), diary.noted(2), row, *row, diary.in_all())
        self.assertEqual([type(part) for part in told], [list, list, tuple, str, int, int])


if __name__ == "__main__":
    unittest.main()
