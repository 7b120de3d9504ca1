"""What the tests share: values of every kind, and checks of errors."""

import random

from nodeadnight.days import Days
from nodeadnight.lengths import Lengths
from nodeadnight.stays import Stay

# Values that are no integers, of every kind that may be passed as any value.
NO_INTEGERS = [
    None, True, False, "", "1", "3+4", "none", "every", "by 7 at 5", "a b\nc", "~" * 3000, (), (1,), [], [0, 1],
    {}, {"a": 1}, {1: [2, (3, None)]}, [[[[0]]]], Lengths.of(1), Days.every(), Stay(0, 1),
]

# Values that are no list or tuple.
NO_ROWS = [None, True, False, 0, 1, -1, 10 ** 59, "", "01", {}, {0: 0}, Lengths.of(0), Days.every(), Stay(0, 1)]

# Values that are no strings.
NO_STRINGS = [value for value in NO_INTEGERS if not isinstance(value, str)] + [0, 1, 34, -1, 10 ** 59]

FAR = 10 ** 59


def fields_of(error, names):
    """The values of the fields of an error, with their kinds, so that True is not 1."""
    return [(type(getattr(error, name)), getattr(error, name)) for name in names]


class Checks:
    """Mixed into a TestCase."""

    def refused(self, error, fields, work, *arguments, **named):
        """Checks that work raises just this class of error, with these fields."""
        try:
            answer = work(*arguments, **named)
        except Exception as caught:
            self.assertIs(type(caught), error)
            names = list(fields)
            expected = [(type(fields[name]), fields[name]) for name in names]
            self.assertEqual(fields_of(caught, names), expected)
        else:
            self.fail(f"{answer} instead of {error.__name__} for {arguments!r} {named!r}")

    def same(self, answer, expected):
        """Checks that two values and their kinds are equal, also of all items."""
        self.assertIs(type(answer), type(expected))
        if isinstance(expected, (list, tuple)):
            self.assertEqual(len(answer), len(expected))
            for one, other in zip(answer, expected):
                self.same(one, other)
        else:
            self.assertEqual(answer, expected)


def shuffled(seed, many, make):
    """Just the same values in each run, made by a seeded source."""
    source = random.Random(seed)
    return [make(source) for _ in range(many)]
