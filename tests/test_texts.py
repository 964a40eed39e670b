"""Points [25], [26] and [27], and of [2] and [3] what speaks of texts."""

import unittest

from meanmoon.dates import Date
from meanmoon.errors import NoText
from meanmoon.shares import Share
from meanmoon.texts import figures, read_date, read_figures, read_share

FAR = 98765432109876543210
FIGURES = "0123456789abcdef"
SIGNS = [chr(code) for code in range(ord(" "), ord("~") + 1) if chr(code) != "%"] + ["\n"]
# What no reader takes, whatever it reads.
NEVER = ["", " ", "-", "--", "+", "_", "\n", ".", "/", "*", "none", "0x1", "0b1", "1.0", "1e3", "1 000", "1,000", "0-"]


def figures_by(number, base):
    """Tell the figures by taking off the last one again and again."""
    if number < 0:
        return "-" + figures_by(-number, base)
    return (figures_by(number // base, base) if number >= base else "") + FIGURES[number % base]


class RefusingCase(unittest.TestCase):
    def refused(self, reader, text, *more):
        with self.assertRaises(NoText, msg=(reader, text, more)) as caught:
            reader(text, *more)
        self.assertEqual(caught.exception.at, text)
        self.assertIsInstance(caught.exception, ValueError)


class FiguresTest(unittest.TestCase):
    def test_ten(self):
        for number in (0, 1, 9, 10, 11, 99, 100, 101, -1, -9, -10, -100, FAR, -FAR, 10 ** 20):
            self.assertEqual(figures(number), str(number))
            self.assertEqual(figures(number, 10), str(number))

    def test_other_bases(self):
        self.assertEqual(figures(255, 16), "ff")
        self.assertEqual(figures(-255, 2), "-11111111")
        self.assertEqual(figures(35, 12), "2b")
        self.assertEqual(figures(0xfedcba9876543210, 16), "fedcba9876543210")
        self.assertEqual(figures(FAR, 7), figures_by(FAR, 7))

    def test_each_base(self):
        for base in range(2, 17):
            self.assertEqual([figures(number, base) for number in range(base)], list(FIGURES[:base]))
            self.assertEqual((figures(base, base), figures(-base, base)), ("10", "-10"))
            for power in range(1, 20):
                number = base ** power
                self.assertEqual(figures(number - 1, base), FIGURES[base - 1] * power)
                self.assertEqual(figures(number, base), "1" + "0" * power)
                self.assertEqual(figures(number + 1, base), figures_by(number + 1, base))
                self.assertEqual(figures(-number, base), "-1" + "0" * power)

    def test_by_keyword(self):
        self.assertEqual((figures(base=2, number=5), figures(number=5)), ("101", "5"))

    def test_very_long(self):
        # Longer than what str writes.
        number = 7 ** 6000
        self.assertEqual(figures(number), figures(number // 10 ** 2000) + figures(number % 10 ** 2000).zfill(2000))
        self.assertEqual(read_figures(figures(number, 16), 16), number)


class ReadFiguresTest(RefusingCase):
    def test_there_and_back(self):
        for base in range(2, 17):
            near = [base ** power + by for power in range(20) for by in (-1, 0, 1)]
            for number in [*range(-40, 41), *near, *[-one for one in near], FAR, -FAR]:
                told = read_figures(figures(number, base), base)
                self.assertEqual((told, type(told)), (number, int))
                self.assertEqual(figures_by(number, base), figures(number, base))

    def test_ten_where_not_told(self):
        self.assertEqual([read_figures(text) for text in ("0", "7", "-7", "10", "-120", str(FAR))],
                         [0, 7, -7, 10, -120, FAR])

    def test_by_keyword(self):
        self.assertEqual((read_figures(base=16, text="-fa"), read_figures(text="12")), (-250, 12))

    def test_long_texts(self):
        text = "-" + "9876543210" * 39 + "12345"
        self.assertEqual(figures(read_figures(text)), text)
        self.assertEqual(read_figures("1" * 400, 2), 2 ** 400 - 1)

    def test_what_writes_no_number(self):
        for text in (*NEVER, "00", "01", "007", "-0", "-00", "-01", "--1", "1-", "1-1", "- 1", " 1", "1 ", "\n1", "1\n",
                     "+1", "+0", "1_0", "_1", "1_", "1/2", "1/1", "a", "-a", "f", "1a", "1*"):
            self.refused(read_figures, text)

    def test_what_writes_no_number_in_a_base(self):
        for base in range(2, 17):
            for text in ("", "-", "00", "01", "-0", "-01", "+1", " 1", "1 ", "1\n", "1_0", "10/1", "--1", "A", "1F"):
                self.refused(read_figures, text, base)
            if base < 16:
                self.refused(read_figures, FIGURES[base], base)
                self.refused(read_figures, "1" + FIGURES[base], base)
                self.refused(read_figures, "-" + FIGURES[base] + "1", base)
            self.refused(read_figures, "g", base)

    def test_each_sign(self):
        for base in (2, 8, 10, 11, 16):
            for sign in SIGNS:
                if sign in FIGURES[:base]:
                    self.assertEqual(read_figures(sign, base), FIGURES.index(sign))
                    self.assertEqual(read_figures("1" + sign, base), base + FIGURES.index(sign))
                else:
                    for text in (sign, "1" + sign, "1" + sign + "1", "1\n" + sign):
                        self.refused(read_figures, text, base)


class ReadShareTest(RefusingCase):
    def test_there_and_back(self):
        for top in (*range(-12, 13), FAR, -FAR, FAR - 1):
            for bottom in (1, 2, 3, 10, 12, 365, FAR, FAR + 1):
                share = Share(top, bottom)
                told = read_share(str(share))
                self.assertEqual((told, type(told)), (share, Share))

    def test_with_and_without_a_bottom(self):
        self.assertEqual(read_share("7/2"), Share(7, 2))
        self.assertEqual(read_share("-7/2"), Share(-7, 2))
        self.assertEqual(read_share("0"), Share(0))
        self.assertEqual(read_share("3"), Share(3))
        self.assertEqual(read_share(text="-3"), Share(-3))
        self.assertEqual(read_share("98765432109876543210/7"), Share(FAR, 7))

    def test_not_in_lowest_terms(self):
        for text in ("4/2", "6/4", "-6/4", "0/2", "0/7", "100/10", "98765432109876543210/10"):
            self.refused(read_share, text)

    def test_bottoms_that_are_not_written(self):
        for text in ("3/1", "0/1", "-3/1", "3/0", "0/0", "-3/0", "3/-2", "-3/-2", "3/-1", "3/", "-3/", "/3", "/", "-/3",
                     "3/-", "3/-0", "3/00", "3/02", "3/+2"):
            self.refused(read_share, text)

    def test_other_texts(self):
        for text in (*NEVER, "03/2", "-03/2", "00", "-0", "-0/2", "00/2", "+3/2", "3 /2", "3/ 2", " 3/2", "3/2 ",
                     "3/2\n", "\n3/2", "3//2", "3/2/5", "1_0/3", "3/1_0", "a/2", "3/a", "7\\2", "7:2", "--3/2"):
            self.refused(read_share, text)

    def test_long_texts(self):
        text = "1" + "0" * 197 + "/" + "3" * 198
        self.assertEqual(str(read_share(text)), text)


class ReadDateTest(RefusingCase):
    def test_there_and_back(self):
        for year in (-FAR, -10, -3, 0, 7, 12, FAR):
            for number in (0, 1, 5, 9, 10, 12, 99, 100, 1234, FAR):
                for day in (0, 1, 9, 10, 30, 99, 100, 12345, FAR):
                    for odd in (False, True):
                        date = Date(year, number, day, odd)
                        told = read_date(str(date))
                        self.assertEqual((told, type(told), type(told.odd)), (date, Date, bool))

    def test_written_dates(self):
        self.assertEqual(read_date("7-05*-09"), Date(7, 5, 9, True))
        self.assertEqual(read_date("-3-11-30"), Date(-3, 11, 30))
        self.assertEqual(read_date(text="0-00-00"), Date(0, 0, 0))
        self.assertEqual(read_date("2024-100*-1000"), Date(2024, 100, 1000, True))

    def test_too_few_and_needless_figures(self):
        for text in ("7-5-09", "7-05-9", "7-5*-09", "7-005-09", "7-05-009", "7-012-09", "7-12-030", "07-05-09",
                     "-07-05-09", "00-05-09", "-0-05-09", "7-0100-09", "7-0-09", "7-000-09", "7--09", "7-05-",
                     "-05-09", "7-*-09"):
            self.refused(read_date, text)

    def test_the_sign_elsewhere(self):
        for text in ("*7-05-09", "7*-05-09", "7-*05-09", "7-0*5-09", "7-05-*09", "7-05-0*9", "7-05-09*", "7-05**-09",
                     "7-05*-09*", "7-05 *-09", "7-05+-09", "7-5*-09", "*-05-09", "7-05*09", "7-05*"):
            self.refused(read_date, text)

    def test_other_texts(self):
        for text in (*NEVER, "7", "7-05", "7-05-09-01", "7/05/09", "--7-05-09", "7--05-09", "7-05--09", "+7-05-09",
                     "7-+5-09", " 7-05-09", "7-05-09 ", "7 -05-09", "7- 5-09", "7-05-09\n", "\n7-05-09", "7-05\n-09",
                     "a-05-09", "7-0a-09", "7-05-0b", "7-05-1_0", "1_0-05-09", "7-05-", "-7--05-09", "7.05.09", "--"):
            self.refused(read_date, text)

    def test_each_sign_put_in(self):
        for sign in SIGNS:
            for at in range(len("7-05-09") + 1):
                text = "7-05-09"[:at] + sign + "7-05-09"[at:]
                try:
                    told = read_date(text)
                except NoText as refused:
                    self.assertEqual(refused.at, text)
                else:
                    self.assertEqual(str(told), text)
                    self.assertIn(sign, "123456789-*0")


class AgainTest(unittest.TestCase):
    def test_the_same_is_told_again(self):
        one, two = read_date("7-05*-09"), read_date("7-05*-09")
        one.year = 8
        self.assertEqual((two, read_date("7-05*-09")), (Date(7, 5, 9, True), Date(7, 5, 9, True)))
        self.assertEqual(read_share("7/2"), read_share("7/2"))


if __name__ == "__main__":
    unittest.main()
