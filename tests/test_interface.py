"""The interface: each class and function is defined in its own file, with the parameters of the document."""

import importlib
import inspect
import unittest

CLASSES = {
    "lengths": ["Lengths"], "days": ["Days"], "stays": ["Stay"], "books": ["Book"], "stretches": ["Stretch"],
    "rules": ["Rule", "DayRule", "NightRule", "LengthRule", "Comes", "Goes", "Holds", "Within", "Lasts", "Both",
              "Either", "Not"],
    "calendars": ["Calendar"], "fills": ["Paper", "Fill", "Bar", "Climb"],
    "gifts": ["Gifts"], "ranges": ["Rooms", "NoRooms"], "wishes": ["Lot"], "judge": ["Case", "Story", "Table"],
    "houses": ["House"], "lookers": ["Looker", "Watcher"], "desk": ["Desk"],
    "doors": ["Door", "Ahead", "Behind", "Lets", "Weakest", "All", "Some", "No"],
}

FUNCTIONS = {
    "stretches": {
        "fillable": "(book, day)", "alive": "(book)", "is_live": "(book, stretch)", "row_of": "(book, day, nights)",
        "rows_of": "(book, day, nights)", "fewest": "(book, day, nights)", "most": "(book, day, nights)",
        "ways": "(book, day, nights)",
    },
    "primes": {"primes": "(book)", "missing": "(one, other)", "alike": "(one, other)"},
    "fills": {
        "fill_of": "(calendar, book)", "is_sellable": "(calendar, book)", "fewest_stays": "(calendar, book)",
        "most_stays": "(calendar, book)", "climb_of": "(calendar, heights)",
    },
    "gifts": {"fewest_gifts": "(calendar, book)"},
    "ranges": {"rooms_for": "(calendar, book)"},
    "wishes": {
        "best_lot": "(calendar, book, wishes)", "fates": "(calendar, book, wishes)",
        "can_take": "(calendar, book, stays)",
    },
    "judge": {
        "parted": "(one, other, book)", "is_safe": "(door, book)", "thumb": "(book)", "story": "(door, book, stretch)",
    },
    "reader": {"read_rule": "(text)", "read_door": "(text)", "read_book": "(text)", "read_calendar": "(text)"},
    "texts": {"calendar_text": "(calendar)"},
}

METHODS = {
    ("houses", "House"): {
        "__init__": "(self, book, rooms, first, after)", "sell": "(self, name, stay)", "sells": "(self, stay)",
        "offers": "(self)", "sell_all": "(self, rows)", "cancel": "(self, name)", "change": "(self, name, stay)",
        "set_book": "(self, book)", "set_rooms": "(self, rooms)", "calendar_now": "(self)", "fill_now": "(self)",
        "undo": "(self)", "trial": "(self)", "tried": "(self, work)", "twin": "(self)",
    },
    ("lookers", "Looker"): {
        "__init__": "(self, calendar, book)", "fills": "(self, paper)", "bars": "(self, paper)",
        "climbs": "(self, paper, word)", "gives": "(self, paper)", "ranges": "(self, paper)",
        "lots": "(self, paper, wishes)",
    },
    ("lookers", "Watcher"): {
        "__init__": "(self, door, book)", "closed": "(self, paper, stretch)", "tells": "(self, paper, stretch)",
    },
    ("desk", "Desk"): {
        "__init__": "(self)", "ask": "(self, line)", "__call__": "(self, line)", "run": "(self, *lines)",
        "house_now": "(self)",
    },
    ("gifts", "Gifts"): {"__init__": "(self, stays, nights, heights)"},
    ("ranges", "Rooms"): {"__init__": "(self, fewest, most, lower, upper, filled)"},
    ("ranges", "NoRooms"): {"__init__": "(self, lower, upper, both)"},
    ("wishes", "Lot"): {"__init__": "(self, taken, stays, heights, worth)"},
    ("judge", "Case"): {"__init__": "(self, stretch, stay)"},
    ("judge", "Story"): {"__init__": "(self, stays)"},
    ("judge", "Table"): {"__init__": "(self, stretches)"},
}


class InterfaceTest(unittest.TestCase):
    def test_classes(self):
        for name, classes in CLASSES.items():
            module = importlib.import_module(f"nodeadnight.{name}")
            for told in classes:
                kind = getattr(module, told)
                self.assertTrue(inspect.isclass(kind), told)
                self.assertEqual(kind.__module__, module.__name__)

    def test_methods(self):
        for (name, kind), methods in METHODS.items():
            body = vars(getattr(importlib.import_module(f"nodeadnight.{name}"), kind))
            for told, parameters in methods.items():
                self.assertEqual(str(inspect.signature(body[told])), parameters, (kind, told))

    def test_functions(self):
        for name, functions in FUNCTIONS.items():
            module = importlib.import_module(f"nodeadnight.{name}")
            for told, parameters in functions.items():
                function = getattr(module, told)
                self.assertEqual(function.__module__, module.__name__)
                self.assertEqual(str(inspect.signature(function)), parameters, told)


if __name__ == "__main__":
    unittest.main()
