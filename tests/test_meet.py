"""Point [21], and of [2], [3] and [4] what speaks of wheels that stand as wished."""

import unittest
from math import gcd, lcm

from meanmoon.errors import NoDay, NoName
from meanmoon.wheels import Wheel, meet, meet_round

FAR = 98765432109876543210
LENGTHS = (60, 59, 58, 57, 55, 53, 49, 47, 43, 41, 37, 32, 31, 27, 25, 29, 23)


def of_length(many, first=0):
    return Wheel([f"n{number}" for number in range(many)], first)


def day_by(wheels, wants, after):
    """Tell the first such day by going through the days of a common round, or None."""
    for day in range(after, after + lcm(*[len(wheel) for wheel in wheels])):
        if all(wheel.name_on(day) == want for wheel, want in zip(wheels, wants)):
            return day
    return None


def apart_by(wheels, wants):
    """Tell the least places of two wheels that never stand so together, by going through their common days."""
    for one in range(len(wheels)):
        for two in range(one + 1, len(wheels)):
            if day_by([wheels[one], wheels[two]], [wants[one], wants[two]], 0) is None:
                return (one, two)
    return None


def told_or_refused(wheels, wants, after):
    try:
        return meet(wheels, wants, after)
    except NoDay as refused:
        return (refused.one, refused.two)


class MeetTest(unittest.TestCase):
    def test_no_wheel(self):
        self.assertEqual(meet([], []), 0)
        self.assertEqual([meet([], [], after) for after in (-FAR, -1, 0, 5, FAR)], [-FAR, -1, 0, 5, FAR])

    def test_one_wheel(self):
        wheel = Wheel(["a", "b", "c"], 1)
        self.assertEqual([meet([wheel], [name]) for name in "abc"], [1, 2, 0])
        self.assertEqual([meet([wheel], ["b"], after) for after in (-4, -3, 2, 3)], [-4, -1, 2, 5])
        self.assertEqual(meet([Wheel(["a"])], ["a"], -FAR), -FAR)
        for after in (-FAR, 0, FAR):
            self.assertEqual(meet([wheel], ["c"], after), wheel.next_named(after, "c"))

    def test_no_part_in_common(self):
        one, two = Wheel(["a", "b", "c"]), Wheel(["w", "x", "y", "z"], 2)
        # Day 0 has a and y.
        self.assertEqual(meet([one, two], ["a", "y"]), 0)
        self.assertEqual(meet([one, two], ["a", "y"], 1), 12)
        self.assertEqual(meet([one, two], ["a", "z"]), 9)
        self.assertEqual(meet([two, one], ["z", "a"]), 9)
        self.assertEqual(meet([one, two], ["c", "w"], -1), 2)

    def test_a_part_in_common(self):
        one, two = of_length(6), of_length(4, 1)
        self.assertEqual(meet([one, two], ["n1", "n2"]), 7)
        self.assertEqual(meet([one, two], ["n1", "n2"], 8), 19)
        self.assertEqual(meet([one, two], ["n1", "n2"], -5), -5)
        self.assertEqual(meet([of_length(6), of_length(3)], ["n4", "n1"]), 4)

    def test_one_wheel_twice(self):
        wheel = of_length(7, 3)
        self.assertEqual(meet([wheel, wheel, wheel], ["n2", "n2", "n2"]), 5)
        self.assertEqual(told_or_refused([wheel, wheel], ["n2", "n3"], 0), (0, 1))

    def test_by_keyword(self):
        one, two = of_length(6), of_length(4, 1)
        self.assertEqual(meet(after=8, wants=["n1", "n2"], wheels=[one, two]), 19)
        self.assertEqual(meet(wants=["n1", "n2"], wheels=[one, two]), 7)
        self.assertEqual(meet_round(wheels=[one, two]), 12)
        self.assertIs(type(meet([one, two], ["n1", "n2"])), int)

    def test_all_wishes_of_two_wheels(self):
        for one_length in range(1, 13):
            for two_length in (1, 2, 3, 4, 6, 8, 9, 10, 12):
                one, two = of_length(one_length, 5), of_length(two_length, -8)
                for first in one.names:
                    for second in two.names:
                        due = day_by([one, two], [first, second], -3)
                        due = (0, 1) if due is None else due
                        self.assertEqual(told_or_refused([one, two], [first, second], -3), due)

    def test_three_wheels(self):
        for lengths in ((4, 6, 9), (6, 10, 15), (5, 6, 7), (8, 4, 2), (2, 4, 8), (12, 8, 18), (1, 5, 10)):
            wheels = [of_length(length, 3 * length + 1) for length in lengths]
            for number in range(60):
                wants = [f"n{(number * by + by) % length}" for length, by in zip(lengths, (1, 5, 7))]
                due = apart_by(wheels, wants) or day_by(wheels, wants, number - 30)
                self.assertEqual(told_or_refused(wheels, wants, number - 30), due)

    def test_long_lengths_and_far_days(self):
        wheels = [of_length(length, 10 ** 17 * length - 3 * length ** 2 - 5) for length in LENGTHS]
        days = meet_round(wheels)
        self.assertGreater(days, 10 ** 21)
        for day in (-FAR, -1, 0, 12345678901234567890, FAR):
            wants = [wheel.name_on(day) for wheel in wheels]
            self.assertEqual(meet(wheels, wants, day), day)
            self.assertEqual(meet(wheels, wants, day + 1), day + days)
            self.assertEqual(meet(wheels, wants, day - 1), day)
            self.assertEqual(meet(wheels, wants, day - days), day - days)
            self.assertEqual(meet(wheels, wants, day - days + 1), day)
            self.assertEqual(meet(wheels, wants), day % days)

    def test_sixty_wheels(self):
        wheels = [of_length(length, FAR // length) for length in range(1, 61)]
        days = meet_round(wheels)
        self.assertEqual(days, lcm(*range(1, 61)))
        wants = [wheel.name_on(-FAR) for wheel in wheels]
        self.assertEqual(meet(wheels, wants, -FAR), -FAR)
        self.assertEqual(meet(wheels, wants, 1 - FAR), days - FAR)

    def test_very_long_wheels(self):
        wheels = [of_length(1009), of_length(1013, 7), of_length(1019, -3)]
        wants = [wheel.name_on(10 ** 9 - 1) for wheel in wheels]
        self.assertEqual(meet(wheels, wants), 10 ** 9 - 1)


class NoNameTest(unittest.TestCase):
    def refused(self, wheels, wants, *after):
        with self.assertRaises(NoName) as caught:
            meet(wheels, wants, *after)
        return caught.exception.name

    def test_a_name_that_a_wheel_has_not(self):
        wheel = Wheel(["a", "b"])
        self.assertEqual(self.refused([wheel], ["c"]), "c")
        self.assertEqual(self.refused([wheel], [""], FAR), "")
        self.assertEqual(self.refused([wheel, wheel], ["a", "c"]), "c")
        # Another wheel's name is none of this one.
        self.assertEqual(self.refused([wheel, Wheel(["c", "d"])], ["c", "a"]), "c")

    def test_the_first_of_several(self):
        wheels = [of_length(3), of_length(4), of_length(5), of_length(6)]
        self.assertEqual(self.refused(wheels, ["n2", "n4", "n5", "n9"]), "n4")
        self.assertEqual(self.refused(wheels, ["x", "y", "z", "n0"]), "x")
        self.assertEqual(self.refused(wheels, ["n0", "n0", "n0", "n6"]), "n6")

    def test_ahead_of_wheels_that_never_stand_so(self):
        wheels = [of_length(2), of_length(4), of_length(3)]
        self.assertEqual(told_or_refused(wheels, ["n0", "n1", "n0"], 0), (0, 1))
        self.assertEqual(self.refused(wheels, ["n0", "n1", "n3"]), "n3")


class NoDayTest(unittest.TestCase):
    def refused(self, wheels, wants, *after):
        with self.assertRaises(NoDay) as caught:
            meet(wheels, wants, *after)
        self.assertIsInstance(caught.exception, LookupError)
        return (caught.exception.one, caught.exception.two)

    def test_two_wheels(self):
        self.assertEqual(self.refused([of_length(4), of_length(6)], ["n0", "n1"]), (0, 1))
        self.assertEqual(self.refused([of_length(4), of_length(6, 1)], ["n0", "n0"], FAR), (0, 1))
        self.assertEqual(self.refused([of_length(4, FAR), of_length(6, FAR + 1)], ["n0", "n2"], -FAR), (0, 1))

    def test_the_least_of_several_pairs(self):
        # By the rest of two: 0, none, 0, 1, 0, 1.
        wheels = [of_length(many) for many in (2, 3, 4, 2, 6, 8)]
        self.assertEqual(self.refused(wheels, ["n0", "n0", "n0", "n1", "n0", "n1"]), (0, 3))
        self.assertEqual(self.refused(wheels, ["n0", "n0", "n0", "n0", "n0", "n1"]), (0, 5))
        self.assertEqual(self.refused(wheels, ["n0", "n0", "n0", "n0", "n2", "n0"]), (1, 4))
        self.assertEqual(self.refused(wheels, ["n0", "n0", "n0", "n0", "n0", "n2"]), (2, 5))
        self.assertEqual(self.refused(wheels, ["n0", "n1", "n2", "n1", "n0", "n0"]), (0, 3))

    def test_a_pair_behind_ones_that_stand_so(self):
        wheels = [of_length(5), of_length(9), of_length(49), of_length(14), of_length(21)]
        self.assertEqual(self.refused(wheels, ["n1", "n1", "n1", "n1", "n2"]), (1, 4))
        self.assertEqual(self.refused(wheels, ["n1", "n1", "n1", "n1", "n4"]), (2, 4))

    def test_any_two_stand_so_just_where_all_do(self):
        lengths = (6, 10, 15, 4)
        wheels = [of_length(length) for length in lengths]
        for number in range(900):
            rests = [number % 6, number // 6 % 10, number // 60 % 15, number % 4]
            wants = [f"n{rest}" for rest in rests]
            pairs = [(one, two) for one in range(4) for two in range(one + 1, 4)
                     if (rests[one] - rests[two]) % gcd(lengths[one], lengths[two])]
            told = told_or_refused(wheels, wants, 0)
            self.assertEqual(told, pairs[0] if pairs else day_by(wheels, wants, 0))


class RoundTest(unittest.TestCase):
    def test_few_wheels(self):
        self.assertEqual(meet_round([]), 1)
        self.assertEqual(meet_round([of_length(1)]), 1)
        self.assertEqual(meet_round([of_length(7, 3)]), 7)
        self.assertEqual(meet_round([of_length(4), of_length(6)]), 12)
        self.assertEqual(meet_round([of_length(7), of_length(7, 1)]), 7)
        self.assertEqual(meet_round([of_length(4), of_length(8), of_length(2)]), 8)
        self.assertEqual(meet_round([of_length(13), of_length(20)]), 260)

    def test_many_wheels(self):
        self.assertEqual(meet_round([of_length(length) for length in LENGTHS]), lcm(*LENGTHS))
        self.assertEqual(meet_round([of_length(length) for length in range(1, 61)]), lcm(*range(1, 61)))

    def test_no_sooner(self):
        for lengths in ((2, 3), (4, 6), (6, 9, 4), (5, 1), (8, 12, 6)):
            wheels = [of_length(length, 5) for length in lengths]
            again = [days for days in range(1, 100)
                     if all(wheel.name_on(7) == wheel.name_on(7 + days) for wheel in wheels)]
            self.assertEqual(meet_round(wheels), again[0])


class AgainTest(unittest.TestCase):
    def test_what_is_handed_in_stays(self):
        wheels, wants = [of_length(6), of_length(4, 1)], ["n1", "n2"]
        kept = repr(wheels)
        self.assertEqual([meet(wheels, wants), meet(wheels, wants), meet_round(wheels)], [7, 7, 12])
        with self.assertRaises(NoDay):
            meet(wheels, ["n0", "n2"])
        with self.assertRaises(NoName):
            meet(wheels, ["n0", "n4"])
        self.assertEqual((repr(wheels), wants), (kept, ["n1", "n2"]))


if __name__ == "__main__":
    unittest.main()
