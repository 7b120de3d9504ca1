"""What the tests share: values of every kind, and checks of errors."""

import random

from nodeadnight.books import Book
from nodeadnight.calendars import Calendar
from nodeadnight.days import Days
from nodeadnight.desk import Desk
from nodeadnight.doors import All, Weakest
from nodeadnight.errors import BadCount, TooMany
from nodeadnight.fills import Bar, Climb, Fill
from nodeadnight.gifts import Gifts
from nodeadnight.houses import House
from nodeadnight.judge import Case, Story, Table
from nodeadnight.lengths import Lengths
from nodeadnight.lookers import Looker, Watcher
from nodeadnight.ranges import NoRooms, Rooms
from nodeadnight.rules import Comes, Lasts, Not
from nodeadnight.stays import Stay
from nodeadnight.stretches import Stretch
from nodeadnight.wishes import Lot

# Objects of the package that are made only to be passed where they do not belong.
OBJECTS = [
    Lengths.of(1), Days.every(), Stay(0, 1), Comes(Days.every()), Lasts(Lengths.every()), Not(Comes(Days.none())),
    Book.every(), Book.none(), Stretch(0, 1), Stretch(0, None), Calendar(1, 0, 1), Fill(()), Bar((0,)),
    Climb((), {0: 0, 1: 0}), Gifts((), (0,), {0: 0, 1: 1}), Rooms(1, None, None, (Stay(0, 1),), ((Stay(0, 1),),)),
    NoRooms(None, (0,), None), Lot((), (Stay(0, 1),), {0: 0, 1: 0}, 0), Case(Stretch(0, 3), Stay(0, 3)),
    Story((Stay(0, 1),)), Table((Stretch(0, 1),)), All(), Weakest(Book.every()), BadCount(1), TooMany("rules", 30),
    House(Book.every(), 1, 0, 1), Looker(Calendar(1, 0, 1), Book.every()), Watcher(All(), Book.every()), Desk(),
]

# Values that are no integers, of every kind that may be passed as any value.
NO_INTEGERS = [
    None, True, False, "", "1", "3+4", "none", "every", "by 7 at 5", "a b\nc", "~" * 3000, (), (1,), [], [0, 1],
    {}, {"a": 1}, {1: [2, (3, None)]}, [[[[0]]]],
] + OBJECTS

# Values that are no list or tuple.
NO_ROWS = [None, True, False, 0, 1, -1, 10 ** 59, "", "01", {}, {0: 0}, Lengths.of(0), Days.every(), Stay(0, 1)]

INTEGERS = [0, 1, 34, -1, 10 ** 59, -10 ** 59]

# Values that are no strings.
NO_STRINGS = [value for value in NO_INTEGERS if not isinstance(value, str)] + INTEGERS

VALUES = NO_INTEGERS + INTEGERS

FAR = 10 ** 59
LAST = 10 ** 12 - 1


def none_of(kind):
    """Values of every kind but one."""
    return [value for value in VALUES if not isinstance(value, kind)]


def no_days():
    """Values that are no days."""
    return NO_INTEGERS + [LAST + 1, -LAST - 1, FAR, -FAR]


def fields_of(error, names):
    """The values of the fields of an error, with their kinds, so that True is not 1."""
    return [(type(getattr(error, name)), getattr(error, name)) for name in names]


class Checks:
    """Mixed into a TestCase."""

    def refused(self, error, fields, work, *arguments, **named):
        """Checks that work raises just this class of error, with these fields."""
        try:
            answer = work(*arguments, **named)
        except Exception as caught:
            self.assertIs(type(caught), error)
            names = list(fields)
            expected = [(type(fields[name]), fields[name]) for name in names]
            self.assertEqual(fields_of(caught, names), expected)
        else:
            self.fail(f"{answer} instead of {error.__name__} for {arguments!r} {named!r}")

    def same(self, answer, expected):
        """Checks that two values and their kinds are equal, also of all items."""
        self.assertIs(type(answer), type(expected))
        if isinstance(expected, (list, tuple)):
            self.assertEqual(len(answer), len(expected))
            for one, other in zip(answer, expected):
                self.same(one, other)
        else:
            self.assertEqual(answer, expected)

    def alone(self, one, others):
        """Checks that an object equals none of the other values, from both sides."""
        for other in others:
            self.same([one == other, other == one, one != other, other != one], [False, False, True, True])

    def holds(self, kind, names):
        """Checks a class of papers: its attributes, made by position and by name, and what equals what."""
        for value in VALUES:
            # Each attribute has a value of its own, so that none of them can stand in the place of another one.
            told = {name: [name, value] for name in names}
            by_place, by_name = kind(*told.values()), kind(**dict(reversed(list(told.items()))))
            for paper in [by_place, by_name]:
                for name in names:
                    self.assertIs(getattr(paper, name), told[name])
            self.same([by_place == by_name, by_place != by_name], [True, False])
            for name in names:
                other = kind(**{**told, name: [name, value, None]})
                self.same([by_place == other, other == by_place, by_place != other], [False, False, True])
                tuples = kind(**{**told, name: (name, value)})
                self.same([by_place == tuples, by_place != tuples], [False, True])

    def defines(self, kind, names):
        """Checks that a class has these methods in its own body, as the interface asks."""
        self.assertEqual([name for name in names if name not in vars(kind)], [])


def shuffled(seed, many, make):
    """Just the same values in each run, made by a seeded source."""
    source = random.Random(seed)
    return [make(source) for _ in range(many)]
