"""The ten classes of refusals: base classes and fields."""

import unittest

from meanmoon import errors

FIELDS = {
    "NoShare": (ZeroDivisionError, ("top",)),
    "NoCalendar": (ValueError, ("why",)),
    "NoDate": (LookupError, ("date", "why")),
    "NoWheel": (ValueError, ("names",)),
    "NoName": (KeyError, ("name",)),
    "NoDay": (LookupError, ("one", "two")),
    "Taken": (ValueError, ("name",)),
    "NoText": (ValueError, ("at",)),
    "NoNote": (IndexError, ("at",)),
    "NoDeed": (RuntimeError, ()),
}


class ErrorsTest(unittest.TestCase):
    def test_each_has_its_base_class(self):
        for name, (base, fields) in FIELDS.items():
            with self.subTest(name=name):
                self.assertEqual(getattr(errors, name).__bases__, (base,))
                self.assertEqual(getattr(errors, name).__module__, "meanmoon.errors")

    def test_each_has_its_fields(self):
        for name, (base, fields) in FIELDS.items():
            with self.subTest(name=name):
                worths = [f"worth of {field}" for field in fields]
                refusal = getattr(errors, name)(*worths)
                self.assertEqual(vars(refusal), dict(zip(fields, worths)))
                self.assertNotEqual(str(refusal), "")

    def test_a_field_is_the_very_thing(self):
        names = ["a", "a"]
        self.assertIs(errors.NoWheel(names).names, names)

    def test_a_number_of_any_length_is_taken(self):
        far = 10 ** 5000
        self.assertEqual(errors.NoShare(far).top, far)
        self.assertEqual(errors.NoNote(far).at, far)


if __name__ == "__main__":
    unittest.main()
