"""Points [5] and [6], and of [2] what speaks of Shares."""

import unittest
from fractions import Fraction

from meanmoon.errors import NoShare
from meanmoon.shares import Share, before, minus, over, plus, times, whole

FAR = 98765432109876543210
ALMOST_FAR = 98765432109876543209


def parts(share):
    return (share.top, share.bottom)


def samples():
    """Tell whole numbers and Shares, above and below 0, each with the fraction that it is."""
    pairs = [(top, Fraction(top)) for top in (-7, -1, 0, 1, 2, 12, FAR, -FAR)]
    for top in (-9, -6, -1, 0, 1, 4, 5, ALMOST_FAR):
        for bottom in (1, 2, 3, 6, FAR):
            pairs.append((Share(top, bottom), Fraction(top, bottom)))
    return pairs


class MadeTest(unittest.TestCase):
    def test_lowest_terms(self):
        self.assertEqual(parts(Share(6, 4)), (3, 2))
        self.assertEqual(parts(Share(7, 2)), (7, 2))
        self.assertEqual(parts(Share(12, 4)), (3, 1))
        self.assertEqual(parts(Share(4, 12)), (1, 3))
        self.assertEqual(parts(Share(-6, 4)), (-3, 2))

    def test_bottom_of_one_where_none_is_told(self):
        self.assertEqual(parts(Share(5)), (5, 1))
        self.assertEqual(parts(Share(-5)), (-5, 1))
        self.assertEqual(parts(Share(0)), (0, 1))

    def test_bottom_below_nought(self):
        self.assertEqual(parts(Share(6, -4)), (-3, 2))
        self.assertEqual(parts(Share(-6, -4)), (3, 2))
        self.assertEqual(parts(Share(3, -1)), (-3, 1))

    def test_top_of_nought(self):
        self.assertEqual(parts(Share(0, 9)), (0, 1))
        self.assertEqual(parts(Share(0, -9)), (0, 1))

    def test_twenty_figures(self):
        self.assertEqual(parts(Share(FAR, ALMOST_FAR)), (FAR, ALMOST_FAR))
        self.assertEqual(parts(Share(FAR, FAR)), (1, 1))
        self.assertEqual(parts(Share(-FAR, 30)), (-3292181070329218107, 1))
        self.assertEqual(parts(Share(20, -FAR)), (-2, 9876543210987654321))

    def test_keywords(self):
        self.assertEqual(parts(Share(top=6, bottom=4)), (3, 2))
        self.assertEqual(parts(Share(bottom=4, top=6)), (3, 2))
        self.assertEqual(parts(Share(6, bottom=4)), (3, 2))
        self.assertEqual(parts(Share(top=6)), (6, 1))

    def test_same_as_fractions(self):
        for top in range(-30, 31):
            for bottom in list(range(-30, 0)) + list(range(1, 31)):
                kept = Fraction(top, bottom)
                self.assertEqual(parts(Share(top, bottom)), (kept.numerator, kept.denominator))

    def test_bottom_of_nought_is_refused(self):
        for top in (6, 0, -5, FAR):
            with self.subTest(top=top):
                with self.assertRaises(NoShare) as caught:
                    Share(top, 0)
                self.assertEqual(caught.exception.top, top)
        with self.assertRaises(ZeroDivisionError):
            Share(top=1, bottom=0)


class EqualTest(unittest.TestCase):
    def test_same_fraction(self):
        self.assertTrue(Share(3, 2) == Share(6, 4))
        self.assertTrue(Share(3, -2) == Share(-6, 4))
        self.assertTrue(Share(0, 5) == Share(0))
        self.assertFalse(Share(3, 2) != Share(6, 4))

    def test_other_fraction(self):
        for other in (Share(3), Share(1, 2), Share(2, 3), Share(-3, 2), Share(5, 2), Share(3, 4)):
            self.assertFalse(Share(3, 2) == other)
            self.assertTrue(Share(3, 2) != other)

    def test_never_a_thing_of_another_kind(self):
        one = Share(3)
        for other in (3, "3", (3, 1), [3, 1], None, Fraction(3), 3.0, Share, True):
            self.assertFalse(one == other)
            self.assertFalse(other == one)
            self.assertTrue(one != other)
            self.assertTrue(other != one)
        self.assertFalse(Share(1) == True)  # noqa: E712
        self.assertFalse(Share(0) == 0)
        self.assertFalse(Share(0) == None)  # noqa: E711
        self.assertIs(one == 3, False)
        self.assertIs(one == Share(3), True)


class WrittenTest(unittest.TestCase):
    def test_str(self):
        self.assertEqual(str(Share(3)), "3")
        self.assertEqual(str(Share(7, 2)), "7/2")
        self.assertEqual(str(Share(6, 4)), "3/2")
        self.assertEqual(str(Share(-7, 2)), "-7/2")
        self.assertEqual(str(Share(7, -2)), "-7/2")
        self.assertEqual(str(Share(-3)), "-3")
        self.assertEqual(str(Share(0, 8)), "0")
        self.assertEqual(str(Share(FAR, ALMOST_FAR)), "98765432109876543210/98765432109876543209")

    def test_repr(self):
        self.assertEqual(repr(Share(7, 2)), "Share(7, 2)")
        self.assertEqual(repr(Share(3)), "Share(3, 1)")
        self.assertEqual(repr(Share(14, -4)), "Share(-7, 2)")
        self.assertEqual(repr(Share(0, -4)), "Share(0, 1)")
        self.assertEqual(repr([Share(-1)]), "[Share(-1, 1)]")

    def test_figures_beyond_what_python_writes_at_once(self):
        long = Share(10 ** 6000 + 7, 2)
        written = "1" + "0" * 5999 + "7"
        self.assertEqual(str(long), written + "/2")
        self.assertEqual(repr(minus(0, long)), f"Share(-{written}, 2)")
        self.assertEqual(str(Share(10 ** 64)), "1" + "0" * 64)
        self.assertEqual(str(Share(10 ** 64 - 1)), "9" * 64)
        self.assertEqual(str(Share(1, -(10 ** 128))), "-1/1" + "0" * 128)


class ReckonedTest(unittest.TestCase):
    def check(self, tell, reckon):
        for one, first in samples():
            for two, second in samples():
                told = tell(one, two)
                due = reckon(first, second)
                self.assertIsInstance(told, Share)
                self.assertEqual(parts(told), (due.numerator, due.denominator))

    def test_plus(self):
        self.assertEqual(plus(Share(1, 2), Share(1, 3)), Share(5, 6))
        self.assertEqual(plus(2, Share(-1, 2)), Share(3, 2))
        self.assertEqual(plus(one=2, two=3), Share(5))
        self.check(plus, lambda first, second: first + second)

    def test_minus(self):
        self.assertEqual(minus(Share(1, 2), Share(1, 3)), Share(1, 6))
        self.assertEqual(minus(Share(1, 2), 2), Share(-3, 2))
        self.assertEqual(minus(two=2, one=3), Share(1))
        self.check(minus, lambda first, second: first - second)

    def test_times(self):
        self.assertEqual(times(Share(2, 3), Share(3, 4)), Share(1, 2))
        self.assertEqual(times(-4, Share(3, 4)), Share(-3))
        self.assertEqual(times(one=4, two=0), Share(0))
        self.check(times, lambda first, second: first * second)

    def test_over(self):
        self.assertEqual(over(Share(1, 2), Share(-3, 4)), Share(-2, 3))
        self.assertEqual(over(1, 3), Share(1, 3))
        self.assertEqual(over(two=2, one=Share(1, 2)), Share(1, 4))
        for one, first in samples():
            for two, second in samples():
                if second != 0:
                    due = first / second
                    self.assertEqual(parts(over(one, two)), (due.numerator, due.denominator))

    def test_over_by_nought_is_refused(self):
        for one, first in samples():
            for two in (0, Share(0), Share(0, 7)):
                with self.assertRaises(NoShare) as caught:
                    over(one, two)
                self.assertEqual(caught.exception.top, first.numerator)
        with self.assertRaises(NoShare) as caught:
            over(Share(6, 4), Share(0))
        self.assertEqual(caught.exception.top, 3)

    def test_before(self):
        self.assertIs(before(Share(1, 3), Share(1, 2)), True)
        self.assertIs(before(Share(1, 2), Share(1, 2)), False)
        self.assertIs(before(Share(1, 2), Share(1, 3)), False)
        self.assertIs(before(-1, Share(-1, 2)), True)
        self.assertIs(before(two=3, one=2), True)
        for one, first in samples():
            for two, second in samples():
                self.assertIs(before(one, two), first < second)

    def test_whole(self):
        self.assertEqual(whole(Share(7, 2)), 3)
        self.assertEqual(whole(Share(-7, 2)), -4)
        self.assertEqual(whole(Share(-4)), -4)
        self.assertEqual(whole(Share(-1, FAR)), -1)
        self.assertEqual(whole(share=5), 5)
        self.assertEqual(whole(-5), -5)
        for one, first in samples():
            self.assertIs(type(whole(one)), int)
            self.assertEqual(whole(one), first.numerator // first.denominator)

    def test_a_moment_falls_on_the_day_that_has_it(self):
        for day in (-3, -1, 0, 1, FAR):
            self.assertEqual(whole(day), day)
            self.assertEqual(whole(plus(day, Share(FAR - 1, FAR))), day)
            self.assertEqual(whole(minus(day, Share(1, FAR))), day - 1)

    def test_what_was_told_may_be_handed_in_again(self):
        share = Share(FAR, ALMOST_FAR)
        for turn in range(6):
            share = times(share, share)
        self.assertEqual(parts(share), (FAR ** 64, ALMOST_FAR ** 64))
        self.assertEqual(over(share, share), Share(1))


class UnchangedTest(unittest.TestCase):
    def test_what_is_handed_in_stays_and_the_same_is_told_again(self):
        one = Share(-7, 3)
        two = Share(5, 2)
        for tell in (plus, minus, times, over, before):
            first = tell(one, two)
            self.assertEqual(tell(one, two), first)
            self.assertEqual((parts(one), parts(two)), ((-7, 3), (5, 2)))
        self.assertEqual((whole(one), whole(one), parts(one)), (-3, -3, (-7, 3)))
        self.assertEqual((str(one), str(one), repr(one)), ("-7/3", "-7/3", "Share(-7, 3)"))

    def test_what_is_refused_changes_nothing(self):
        one = Share(6, 4)
        nought = Share(0, 4)
        with self.assertRaises(NoShare):
            over(one, nought)
        self.assertEqual((parts(one), parts(nought)), ((3, 2), (0, 1)))


if __name__ == "__main__":
    unittest.main()
