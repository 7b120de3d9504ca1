"""Stays: nights from a first day to a later one."""

from nodeadnight.basics import is_day, is_whole, read_number
from nodeadnight.errors import BadStay, BadText


class Stay:
    """The nights from the day first to the day after, less this one."""

    MOST = 400

    def __init__(self, first, after):
        if not is_day(first):
            raise BadStay("first")
        if not is_day(after) or not first < after <= first + Stay.MOST:
            raise BadStay("after")
        self.first = first
        self.after = after
        self._nights = tuple(range(first, after))

    @classmethod
    def read(cls, text):
        """The stay with just this text."""
        words = text.split("+") if isinstance(text, str) else []
        numbers = [read_number(word) for word in words]
        if len(numbers) != 2 or None in numbers:
            raise BadText(0, 0)
        first, nights = numbers
        try:
            return Stay(first, first + nights)
        except BadStay:
            raise BadText(0, 0) from None

    def __len__(self):
        return len(self._nights)

    def __iter__(self):
        return iter(self._nights)

    def __contains__(self, x):
        return is_whole(x) and self.first <= x < self.after

    def __rshift__(self, other):
        return Stay(self.first + other, self.after + other)

    def __lshift__(self, other):
        return self >> -other

    def __floordiv__(self, other):
        if not is_whole(other) or not self.first < other < self.after:
            raise BadStay("day")
        return Stay(self.first, other), Stay(other, self.after)

    def meets(self, other):
        """Whether two stays have a night in common."""
        return self.first < other.after and other.first < self.after

    def __eq__(self, other):
        return isinstance(other, Stay) and self.first == other.first and self.after == other.after

    def __str__(self):
        return f"{self.first}+{len(self._nights)}"


def check_stay(value):
    """Refuses any value that is no Stay."""
    if not isinstance(value, Stay):
        raise BadStay("stay")
