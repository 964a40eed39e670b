"""Point [28]: the text of a calendar, and of [7] and [16] what hangs on it."""

import unittest
from itertools import permutations

from meanmoon.calendars import Calendar, kept_form
from meanmoon.errors import NoCalendar, NoText
from meanmoon.shares import Share
from meanmoon.texts import read_calendar
from tests.samples import KINDS, calendar_of

FAR = 98765432109876543210
LINES = ("month 59/2", "year 365", "moon 1/3", "mark -5/7")
MONTH, YEAR, MOON, MARK = LINES


def text_of(*lines):
    return "\n".join(lines)


class ReadTest(unittest.TestCase):
    def test_each_order(self):
        due = repr(Calendar(Share(59, 2), 365, Share(1, 3), Share(-5, 7)))
        for lines in permutations(LINES):
            told = read_calendar(text_of(*lines))
            self.assertEqual((repr(told), type(told)), (due, Calendar))

    def test_by_keyword(self):
        self.assertEqual(repr(read_calendar(text="month 30\nyear 360\nmoon 0\nmark 0")), repr(Calendar(30, 360)))

    def test_there_and_back(self):
        calendars = [calendar_of(kind) for kind in KINDS]
        calendars.append(Calendar(Share(FAR - 1, FAR // 30), Share(FAR * 4, FAR // 91), FAR, Share(-1, FAR)))
        for calendar in calendars:
            told = read_calendar(str(calendar))
            self.assertEqual((repr(told), str(told)), (repr(calendar), str(calendar)))
            self.assertEqual(told, calendar)
            self.assertEqual(kept_form(told), kept_form(calendar))

    def test_fields_are_as_written(self):
        told = read_calendar("mark 400\nmoon -29/2\nyear 365\nmonth 59/2")
        self.assertEqual((told.month, told.year, told.moon, told.mark),
                         (Share(59, 2), Share(365), Share(-29, 2), Share(400)))
        self.assertEqual(str(told), "month 59/2\nyear 365\nmoon -29/2\nmark 400")


class RefusedTest(unittest.TestCase):
    def refused(self, *lines):
        with self.assertRaises(NoText, msg=lines) as caught:
            read_calendar(text_of(*lines))
        return caught.exception.at

    def test_led_by_no_word(self):
        for line in ("", " ", "month", "months 30", "Month 30", "MONTH 30", " month 30", "30", "month\t30", "month:30",
                     "day 30", "month30", "mo 30", "-", "# month 30", "month-30"):
            self.assertEqual(self.refused(line), line)
            self.assertEqual(self.refused(line, YEAR, MOON, MARK), line)
            self.assertEqual(self.refused(YEAR, line, MOON, MARK), line)
            self.assertEqual(self.refused(*LINES, line), line)
            self.assertEqual(self.refused(line, *LINES), line)

    def test_line_ends_ahead_behind_and_between(self):
        self.assertEqual(self.refused(*LINES, ""), "")
        self.assertEqual(self.refused("", *LINES), "")
        self.assertEqual(self.refused(MONTH, YEAR, "", MOON, MARK), "")

    def test_led_by_a_word_that_led_another(self):
        for line in LINES:
            self.assertEqual(self.refused(*LINES, line), line)
        self.assertEqual(self.refused(*LINES, "year 366"), "year 366")
        self.assertEqual(self.refused(MONTH, "month 31", YEAR, MOON), "month 31")
        self.assertEqual(self.refused("moon 5", MOON), MOON)
        self.assertEqual(self.refused(MONTH, "month ", YEAR, MOON, MARK), "month ")
        # Only what a line is led by counts.
        self.assertEqual(self.refused("month month 30", YEAR, MOON, MARK), "month month 30")

    def test_the_first_such_line(self):
        self.assertEqual(self.refused(MONTH, "week 7", "month 31", "day 1"), "week 7")
        self.assertEqual(self.refused(MONTH, "month 31", "week 7"), "month 31")
        self.assertEqual(self.refused(MONTH, YEAR, MOON, MARK, "x", MARK), "x")

    def test_a_word_that_leads_no_line(self):
        self.assertEqual(self.refused(YEAR, MOON, MARK), "month")
        self.assertEqual(self.refused(MONTH, MOON, MARK), "year")
        self.assertEqual(self.refused(MARK, YEAR, MONTH), "moon")
        self.assertEqual(self.refused(MONTH, YEAR, MOON), "mark")

    def test_the_first_such_word(self):
        self.assertEqual(self.refused(MARK), "month")
        self.assertEqual(self.refused(MARK, MONTH), "year")
        self.assertEqual(self.refused(YEAR, MONTH), "moon")
        self.assertEqual(self.refused(MOON, MARK), "month")

    def test_a_share_that_is_not_read(self):
        for word in ("month", "year", "moon", "mark"):
            lines = [line for line in LINES if not line.startswith(word + " ")]
            for text in ("", " ", " 3", "3 ", "+3", "03", "-0", "4/2", "3/1", "3/0", "3/-2", "x", "3 4", "3/", "/2",
                         "--1", "1_0", "-", word):
                for at in range(4):
                    line = f"{word} {text}"
                    self.assertEqual(self.refused(*lines[:at], line, *lines[at:]), line)

    def test_the_first_such_line_in_the_text(self):
        self.assertEqual(self.refused("mark x", "moon y", "month z", YEAR), "mark x")
        self.assertEqual(self.refused(MONTH, YEAR, "mark x", "moon y"), "mark x")
        self.assertEqual(self.refused(MONTH, "year y", "mark x", "moon z"), "year y")

    def test_which_comes_first(self):
        # A line without a word of its own, though a word is missing and a Share isn't read.
        self.assertEqual(self.refused("month x", "week 7", YEAR), "week 7")
        self.assertEqual(self.refused("month x", "month 30", YEAR), "month 30")
        # A missing word, though a Share isn't read.
        self.assertEqual(self.refused("month x", YEAR, MOON), "mark")
        self.assertEqual(self.refused("mark x", "moon y"), "month")
        # A Share that isn't read, though the others make no calendar.
        self.assertEqual(self.refused("month 0", "year 1", MOON, "mark x"), "mark x")
        self.assertEqual(self.refused("mark x", "month 0", "year 1", MOON), "mark x")

    def test_no_calendar(self):
        for month, year, why in (("0", "360", "month"), ("-30", "-360", "month"), ("1/2", "12", "month"),
                                 ("59/2", "359", "between"), ("30", "359", "between"), ("30", "-360", "between"),
                                 ("30", "390", "thirteen"), ("30", "1168/3", "thirteen")):
            for lines in permutations((f"month {month}", f"year {year}", MOON, MARK)):
                with self.assertRaises(NoCalendar) as caught:
                    read_calendar(text_of(*lines))
                self.assertEqual(caught.exception.why, why)
        self.assertEqual(read_calendar(text_of("month 30", "year 389", "moon 0", "mark 0")), Calendar(30, 389))


if __name__ == "__main__":
    unittest.main()
