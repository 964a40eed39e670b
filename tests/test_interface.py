"""The interface: names, arguments, their order and default values, and where each is defined."""

import importlib
import inspect
import unittest

CLASSES = {
    ("shares", "Share"): "(top, bottom=1)",
    ("calendars", "Calendar"): "(month, year, moon=None, mark=None)",
    ("dates", "Date"): "(year, number, day, odd=False)",
    ("years", "Year"): "(calendar, number)",
    ("shifts", "Shifted"): "(calendar, rules)",
    ("wheels", "Wheel"): "(names, first=0)",
    ("feasts", "Feast"): "(name, number, day, when='plain')",
    ("feasts", "Feasts"): "(calendar)",
    ("diary", "Diary"): "(calendar)",
}

FUNCTIONS = {
    ("shares", "plus"): "(one, two)",
    ("shares", "minus"): "(one, two)",
    ("shares", "times"): "(one, two)",
    ("shares", "over"): "(one, two)",
    ("shares", "before"): "(one, two)",
    ("shares", "whole"): "(share)",
    ("calendars", "kept_form"): "(calendar)",
    ("dates", "date_of"): "(calendar, day)",
    ("dates", "day_of"): "(calendar, date)",
    ("dates", "later"): "(calendar, date, days=0, months=0, years=0)",
    ("years", "kinds"): "(calendar, first, many)",
    ("years", "odd_years"): "(calendar, first, many)",
    ("stretches", "lengths_from"): "(calendar, k, many)",
    ("stretches", "days_of"): "(calendar, k, many)",
    ("stretches", "stretches"): "(calendar, many)",
    ("rounds", "whole_round"): "(calendar)",
    ("rounds", "near_rounds"): "(calendar, most)",
    ("wheels", "meet"): "(wheels, wants, after=0)",
    ("wheels", "meet_round"): "(wheels)",
    ("feasts", "feast_days"): "(calendar, feast, year)",
    ("beside", "carried"): "(one, two, date)",
    ("beside", "gap"): "(one, two, years=1)",
    ("beside", "starts_together"): "(one, two, first, many)",
    ("texts", "figures"): "(number, base=10)",
    ("texts", "read_figures"): "(text, base=10)",
    ("texts", "read_share"): "(text)",
    ("texts", "read_date"): "(text)",
    ("texts", "read_calendar"): "(text)",
}

METHODS = {
    ("calendars", "Calendar", "start"): "(self, k)",
    ("calendars", "Calendar", "month_at"): "(self, day)",
    ("calendars", "Calendar", "mark_day"): "(self, j)",
    ("calendars", "Calendar", "month_with"): "(self, j)",
    ("calendars", "Calendar", "mark_in"): "(self, k)",
    ("calendars", "Calendar", "name_of"): "(self, k)",
    ("years", "Year", "days_in"): "(self)",
    ("shifts", "Shifted", "new_year"): "(self, year)",
    ("shifts", "Shifted", "length_of"): "(self, year)",
    ("shifts", "Shifted", "year_at"): "(self, day)",
    ("shifts", "Shifted", "comes"): "(self, first, many)",
    ("wheels", "Wheel", "name_on"): "(self, day)",
    ("wheels", "Wheel", "next_named"): "(self, day, name)",
    ("feasts", "Feasts", "add"): "(self, feast)",
    ("feasts", "Feasts", "drop"): "(self, name)",
    ("feasts", "Feasts", "called"): "(self)",
    ("feasts", "Feasts", "on_day"): "(self, day)",
    ("feasts", "Feasts", "in_year"): "(self, year)",
    ("feasts", "Feasts", "next_feast"): "(self, day, name=None)",
    ("diary", "Diary", "note"): "(self, date, text)",
    ("diary", "Diary", "strike"): "(self, date, at)",
    ("diary", "Diary", "moved"): "(self, date, other)",
    ("diary", "Diary", "undo"): "(self)",
    ("diary", "Diary", "notes_on"): "(self, date)",
    ("diary", "Diary", "noted"): "(self, year)",
    ("diary", "Diary", "in_all"): "(self)",
}


def found(module, name):
    return getattr(importlib.import_module("meanmoon." + module), name)


class InterfaceTest(unittest.TestCase):
    def check(self, thing, module, arguments):
        self.assertEqual(str(inspect.signature(thing)), arguments)
        self.assertEqual(thing.__module__, "meanmoon." + module)

    def test_classes(self):
        for (module, name), arguments in CLASSES.items():
            with self.subTest(name=name):
                self.assertTrue(inspect.isclass(found(module, name)))
                self.check(found(module, name), module, arguments)

    def test_functions(self):
        for (module, name), arguments in FUNCTIONS.items():
            with self.subTest(name=name):
                self.assertTrue(inspect.isfunction(found(module, name)))
                self.check(found(module, name), module, arguments)

    def test_methods_stand_in_the_class_itself(self):
        for (module, owner, name), arguments in METHODS.items():
            with self.subTest(name=name):
                self.check(vars(found(module, owner))[name], module, arguments)


if __name__ == "__main__":
    unittest.main()
