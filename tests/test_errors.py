"""Point [2], errors: each class, its group, its fields, and that none stands below another one."""

import unittest

from nodeadnight import errors
from values import NO_INTEGERS, NO_STRINGS

GROUPS = {
    "BadInput": {
        "BadLengths": ("part",), "BadDays": ("part",), "BadStay": ("part",), "BadRule": ("part",),
        "BadBook": ("part",), "BadStretch": ("part",), "BadCalendar": ("part",), "BadDoor": ("part",),
        "BadName": ("value",), "BadCount": ("value",), "BadWish": ("at",), "BadRow": ("at",),
        "BadText": ("line", "word"), "BadLine": ("word",),
    },
    "Refused": {
        "Taken": ("name",), "NoGuest": ("name",), "NotLet": ("stay",), "Outside": ("stay",), "Full": ("night",),
        "Loose": ("name",), "TooMany": ("what", "most"),
    },
    "NoAnswer": {"Dead": ("bar",), "NoDeed": (), "NoHouse": ()},
}

NAMES = ["StayError"] + list(GROUPS) + [name for group in GROUPS for name in GROUPS[group]]


def above(name):
    """The names of the classes of the package that a class stands below, itself with them."""
    if name == "StayError":
        return {"StayError"}
    if name in GROUPS:
        return {name, "StayError"}
    return {name, "StayError"} | {group for group in GROUPS if name in GROUPS[group]}


class ErrorsTest(unittest.TestCase):
    def test_base(self):
        self.assertEqual(errors.StayError.__bases__, (ValueError,))

    def test_each_stands_below_what_is_told_alone(self):
        for name in NAMES:
            for other in NAMES:
                with self.subTest(name=name, other=other):
                    below = issubclass(getattr(errors, name), getattr(errors, other))
                    self.assertIs(below, other in above(name))

    def test_none_is_missing_and_none_too_many(self):
        defined = [name for name in vars(errors) if isinstance(vars(errors)[name], type)]
        self.assertEqual(sorted(defined), sorted(NAMES))
        for name in defined:
            self.assertEqual(getattr(errors, name).__module__, "nodeadnight.errors")

    def test_without_fields(self):
        for name in ["StayError", "BadInput", "Refused", "NoAnswer", "NoDeed", "NoHouse"]:
            with self.assertRaises(getattr(errors, name)):
                raise getattr(errors, name)()

    def test_fields_by_position_and_by_name(self):
        for group in GROUPS:
            for name, fields in GROUPS[group].items():
                self.check_fields(getattr(errors, name), fields)

    def check_fields(self, error, fields):
        for value in NO_INTEGERS + NO_STRINGS:
            values = [value, [value]][:len(fields)]
            by_name = dict(zip(fields, values))
            for made in [error(*values), error(**by_name)] if fields else []:
                with self.subTest(error=error.__name__, value=value):
                    kept = [getattr(made, field) for field in fields]
                    self.assertTrue(all(one is other for one, other in zip(kept, values)))

    def test_order_of_two_fields(self):
        text, many = errors.BadText(3, 5), errors.TooMany("lengths", 400)
        self.assertEqual((text.line, text.word), (3, 5))
        self.assertEqual((many.what, many.most), ("lengths", 400))
        text, many = errors.BadText(word=5, line=3), errors.TooMany(most=400, what="lengths")
        self.assertEqual((text.line, text.word), (3, 5))
        self.assertEqual((many.what, many.most), ("lengths", 400))

    def test_caught_by_group(self):
        with self.assertRaises(errors.BadInput):
            raise errors.BadCount(True)
        with self.assertRaises(errors.Refused):
            raise errors.Full(3)
        with self.assertRaises(errors.NoAnswer):
            raise errors.Dead((0, 3))
        with self.assertRaises(ValueError):
            raise errors.NoHouse()


if __name__ == "__main__":
    unittest.main()
