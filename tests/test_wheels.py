"""Point [20], and of [2] and [3] what speaks of wheels."""

import unittest

from meanmoon.errors import NoName, NoWheel
from meanmoon.wheels import Wheel
from tests.cases import EqualCase

FAR = 98765432109876543210
SIXTY = [f"n{number}" for number in range(60)]
FIRSTS = (-FAR, -10 ** 17 - 3, -7, -1, 0, 1, 5, 123456789012345678, FAR)


def name_by(names, first, day):
    """Tell the name of a day by going on from the day first, or back, day by day."""
    at = 0
    while first < day:
        first, at = first + 1, at + 1 if at + 1 < len(names) else 0
    while first > day:
        first, at = first - 1, at - 1 if at > 0 else len(names) - 1
    return names[at]


class MakingTest(unittest.TestCase):
    def test_fields(self):
        wheel = Wheel(["a", "b", "c"], 5)
        self.assertEqual((wheel.names, wheel.first), (("a", "b", "c"), 5))
        self.assertIs(type(wheel.names), tuple)
        self.assertEqual(Wheel(["a"]).first, 0)
        # The day is kept as it was handed in, not the least one that has the name.
        for first in FIRSTS:
            self.assertEqual(Wheel(["a", "b"], first).first, first)
        self.assertEqual(Wheel(SIXTY, -3).names, tuple(SIXTY))

    def test_by_keyword(self):
        wheel = Wheel(first=-4, names=["a", "b", "c"])
        self.assertEqual((wheel.names, wheel.first), (("a", "b", "c"), -4))
        self.assertEqual(wheel.name_on(day=-3), "b")
        self.assertEqual(wheel.next_named(name="a", day=0), 2)

    def refused(self, names, **more):
        with self.assertRaises(NoWheel) as caught:
            Wheel(names, **more)
        self.assertIsInstance(caught.exception, ValueError)
        return caught.exception.names

    def test_no_name_is_refused(self):
        self.assertEqual(self.refused([]), [])
        self.assertEqual(self.refused([], first=FAR), [])

    def test_a_name_twice_is_refused(self):
        for names in (["a", "a"], ["", ""], ["a", "b", "a"], ["b", "a", "a"], SIXTY + ["n59"], ["n0"] + SIXTY):
            self.assertEqual(self.refused(names), names)
            self.assertIs(type(self.refused(names)), list)
        self.assertEqual(self.refused(["a", "b", "b"], first=-3), ["a", "b", "b"])

    def test_what_was_refused_stays_told(self):
        names = ["a", "b", "a"]
        told = self.refused(names)
        self.assertEqual(names, ["a", "b", "a"])
        names.clear()
        self.assertEqual(told, ["a", "b", "a"])

    def test_names_that_differ_a_little(self):
        names = ["a", "A", "", " ", "a ", " a", "aa", "0", "00"]
        self.assertEqual(len(Wheel(names)), 9)

    def test_the_list_stays_and_its_change_changes_nothing(self):
        names = ["a", "b", "c"]
        wheel = Wheel(names, 1)
        self.assertEqual(names, ["a", "b", "c"])
        first = (str(wheel), repr(wheel), len(wheel), [wheel.name_on(day) for day in range(9)])
        names.reverse()
        names.append("d")
        self.assertEqual((str(wheel), repr(wheel), len(wheel), [wheel.name_on(day) for day in range(9)]), first)
        self.assertEqual(wheel.names, ("a", "b", "c"))
        with self.assertRaises(NoName):
            wheel.next_named(0, "d")


class WrittenTest(unittest.TestCase):
    def test_len(self):
        self.assertEqual([len(Wheel(SIXTY[:many])) for many in (1, 2, 7, 60)], [1, 2, 7, 60])

    def test_str(self):
        self.assertEqual(str(Wheel(["a", "b", "c"])), "a b c")
        self.assertEqual(str(Wheel(["a", "b", "c"], 1)), "c a b")
        self.assertEqual(str(Wheel(["a", "b", "c"], -1)), "b c a")
        self.assertEqual(str(Wheel(["a", "b", "c"], 300)), "a b c")
        self.assertEqual(str(Wheel(["a", "b", "c"], FAR)), "a b c")
        self.assertEqual(str(Wheel(["a", "b", "c"], FAR + 1)), "c a b")
        self.assertEqual(str(Wheel(["only"], 17)), "only")
        self.assertEqual(str(Wheel([""])), "")
        self.assertEqual(str(Wheel(["", "x"])), " x")
        self.assertEqual(str(Wheel(["", "x"], 1)), "x ")
        self.assertEqual(str(Wheel(SIXTY, 59)), " ".join(SIXTY[1:] + SIXTY[:1]))

    def test_repr(self):
        self.assertEqual(repr(Wheel(["a", "b"], first=3)), "Wheel(['a', 'b'], first=3)")
        self.assertEqual(repr(Wheel(["a"])), "Wheel(['a'], first=0)")
        self.assertEqual(repr(Wheel(["it's", ""], -FAR)), "Wheel([\"it's\", ''], first=-98765432109876543210)")
        self.assertEqual(repr([Wheel(["b", "a"], -2)]), "[Wheel(['b', 'a'], first=-2)]")


class EqualTest(EqualCase):
    def test_turned_about(self):
        for turn in range(60):
            self.alike(Wheel(SIXTY, 7), Wheel(SIXTY[turn:] + SIXTY[:turn], 7 + turn))
        self.alike(Wheel(["a", "b", "c"]), Wheel(["c", "a", "b"], -1))
        self.unlike(Wheel(["a", "b", "c"]), Wheel(["c", "a", "b"]))

    def test_moved_by_whole_rounds(self):
        for rounds in (-FAR, -1, 1, 10 ** 17, FAR):
            self.alike(Wheel(["a", "b", "c"], 2), Wheel(["a", "b", "c"], 2 + 3 * rounds))
        self.alike(Wheel(["a"], 2), Wheel(["a"], 3))

    def test_moved_by_one_day(self):
        for first in FIRSTS:
            self.unlike(Wheel(["a", "b", "c"], first), Wheel(["a", "b", "c"], first + 1))
            self.unlike(Wheel(["a", "b"], first), Wheel(["a", "b"], first + 1))
            self.unlike(Wheel(SIXTY, first), Wheel(SIXTY, first - 1))

    def test_two_names_exchanged(self):
        self.unlike(Wheel(["a", "b", "c"]), Wheel(["a", "c", "b"]))
        self.unlike(Wheel(SIXTY), Wheel(SIXTY[:58] + ["n59", "n58"]))
        # Of two names it is the same as to move by a day.
        self.alike(Wheel(["a", "b"]), Wheel(["b", "a"], 1))

    def test_other_lengths_and_names(self):
        self.unlike(Wheel(["a", "b", "c"]), Wheel(["a", "b"]))
        self.unlike(Wheel(["a", "b"]), Wheel(["a", "b", "c", "d"]))
        self.unlike(Wheel(["a", "b"]), Wheel(["a", "B"]))
        # The same text, but other names.
        self.unlike(Wheel(["a b", "c"]), Wheel(["a", "b c"]))
        self.unlike(Wheel(["a b"]), Wheel(["a", "b"]))

    def test_never_a_thing_of_another_kind(self):
        wheel = Wheel(["a", "b"])
        for other in (["a", "b"], ("a", "b"), "a b", 2, None, repr(wheel), Wheel):
            self.unlike(wheel, other)
        self.unlike(Wheel(["a"]), "a")


class NameOnTest(unittest.TestCase):
    def test_forth_and_back(self):
        wheel = Wheel(["a", "b", "c"], 1)
        self.assertEqual([wheel.name_on(day) for day in range(-4, 6)], list("bcabcabcab"))

    def test_same_as_by_going_through(self):
        for names in (["x"], ["a", "b"], SIXTY[:7], SIXTY):
            for first in FIRSTS:
                wheel = Wheel(names, first)
                for day in range(first - 130, first + 130, 7):
                    self.assertEqual(wheel.name_on(day), name_by(names, first, day))

    def test_far_days(self):
        wheel = Wheel(["a", "b", "c"], -FAR)
        self.assertEqual([wheel.name_on(FAR + day) for day in range(3)], ["a", "b", "c"])
        self.assertEqual(wheel.name_on(-FAR), "a")
        self.assertEqual(Wheel(SIXTY, 7).name_on(7 + 60 * FAR + 13), "n13")


class NextNamedTest(unittest.TestCase):
    def test_near(self):
        wheel = Wheel(["a", "b", "c"], 1)
        self.assertEqual([wheel.next_named(day, "a") for day in range(-3, 6)], [-2, -2, 1, 1, 1, 4, 4, 4, 7])
        self.assertEqual(wheel.next_named(0, "c"), 0)
        self.assertEqual(wheel.next_named(1, "c"), 3)

    def test_on_the_day_behind_it_and_far(self):
        for first in FIRSTS:
            wheel = Wheel(SIXTY, first)
            for day in (-FAR, -1, 0, 59, 10 ** 17, FAR):
                name = wheel.name_on(day)
                self.assertEqual(wheel.next_named(day, name), day)
                self.assertEqual(wheel.next_named(day + 1, name), day + 60)
                self.assertEqual(wheel.next_named(day - 1, name), day)

    def test_one_name(self):
        self.assertEqual([Wheel(["a"], FAR).next_named(day, "a") for day in (-FAR, 0, FAR)], [-FAR, 0, FAR])

    def test_same_as_by_going_through(self):
        for names in (["a", "b"], SIXTY[:7], SIXTY[:13]):
            for first in (-9, 0, 4):
                wheel = Wheel(names, first)
                for day in range(-20, 20):
                    for name in names:
                        due = [day + on for on in range(len(names)) if name_by(names, first, day + on) == name]
                        self.assertEqual([wheel.next_named(day, name)], due)

    def test_a_name_of_no_sign(self):
        wheel = Wheel(["a", "", "c"])
        self.assertEqual((wheel.next_named(2, ""), wheel.name_on(4)), (4, ""))

    def test_a_name_that_no_day_has_is_refused(self):
        for names, name in ((["a", "b"], "c"), (["a", "b"], ""), (["a", "b"], "ab"), (["ab"], "a"), (SIXTY, "n60"),
                            (["a", "b"], "A"), (["a", "b"], "a b")):
            with self.assertRaises(NoName) as caught:
                Wheel(names, 2).next_named(5, name)
            self.assertIsInstance(caught.exception, KeyError)
            self.assertEqual(caught.exception.name, name)

    def test_what_is_refused_changes_nothing(self):
        wheel = Wheel(["a", "b"], 3)
        with self.assertRaises(NoName):
            wheel.next_named(0, "c")
        self.assertEqual((wheel.names, wheel.first, wheel.next_named(0, "a")), (("a", "b"), 3, 1))


if __name__ == "__main__":
    unittest.main()
