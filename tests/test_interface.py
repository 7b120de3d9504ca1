"""The interface: each class and function is defined in its own file, with the parameters of the document."""

import importlib
import inspect
import unittest

CLASSES = {
    "lengths": ["Lengths"], "days": ["Days"], "stays": ["Stay"], "books": ["Book"], "stretches": ["Stretch"],
    "rules": ["Rule", "DayRule", "NightRule", "LengthRule", "Comes", "Goes", "Holds", "Within", "Lasts", "Both",
              "Either", "Not"],
    "calendars": ["Calendar"], "fills": ["Paper", "Fill", "Bar", "Climb"],
    "gifts": ["Gifts"], "ranges": ["Rooms", "NoRooms"], "wishes": ["Lot"], "judge": ["Case", "Story", "Table"],
    "doors": ["Door", "Ahead", "Behind", "Lets", "Weakest", "All", "Some", "No"],
}

FUNCTIONS = {
    "stretches": {
        "fillable": "(book, day)", "alive": "(book)", "is_live": "(book, stretch)", "row_of": "(book, day, nights)",
        "rows_of": "(book, day, nights)", "fewest": "(book, day, nights)", "most": "(book, day, nights)",
        "ways": "(book, day, nights)",
    },
    "primes": {"primes": "(book)", "missing": "(one, other)", "alike": "(one, other)"},
    "fills": {
        "fill_of": "(calendar, book)", "is_sellable": "(calendar, book)", "fewest_stays": "(calendar, book)",
        "most_stays": "(calendar, book)", "climb_of": "(calendar, heights)",
    },
    "gifts": {"fewest_gifts": "(calendar, book)"},
    "ranges": {"rooms_for": "(calendar, book)"},
    "wishes": {
        "best_lot": "(calendar, book, wishes)", "fates": "(calendar, book, wishes)",
        "can_take": "(calendar, book, stays)",
    },
    "judge": {
        "parted": "(one, other, book)", "is_safe": "(door, book)", "thumb": "(book)", "story": "(door, book, stretch)",
    },
    "reader": {"read_rule": "(text)", "read_door": "(text)", "read_book": "(text)", "read_calendar": "(text)"},
}


class InterfaceTest(unittest.TestCase):
    def test_classes(self):
        for name, classes in CLASSES.items():
            module = importlib.import_module(f"nodeadnight.{name}")
            for told in classes:
                kind = getattr(module, told)
                self.assertTrue(inspect.isclass(kind), told)
                self.assertEqual(kind.__module__, module.__name__)

    def test_functions(self):
        for name, functions in FUNCTIONS.items():
            module = importlib.import_module(f"nodeadnight.{name}")
            for told, parameters in functions.items():
                function = getattr(module, told)
                self.assertEqual(function.__module__, module.__name__)
                self.assertEqual(str(inspect.signature(function)), parameters, told)


if __name__ == "__main__":
    unittest.main()
