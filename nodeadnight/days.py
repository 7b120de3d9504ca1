"""Sets of days that come round."""

from math import lcm

from nodeadnight.basics import are_from, is_from, is_whole, least_period, marked, read_number
from nodeadnight.errors import BadCount, BadDays, BadText, TooMany


class Days:
    """The days that leave some rests modulo a period, the least one."""

    MOST = 7

    def __init__(self, period, rests):
        if not is_from(period, 1, Days.MOST):
            raise BadDays("period")
        if not are_from(rests, 0, period - 1):
            raise BadDays("rests")
        turn = marked(period, rests)
        self._period = least_period(turn)
        self._rests = tuple([n for n in range(self._period) if turn[n]])

    @property
    def period(self):
        """The least period."""
        return self._period

    @property
    def rests(self):
        """What the days leave modulo the period, ascending."""
        return self._rests

    @staticmethod
    def on(period, *rests):
        """The days that leave these rests modulo a period."""
        return Days(period, rests)

    @staticmethod
    def every():
        """All days."""
        return Days(1, (0,))

    @staticmethod
    def none():
        """No days."""
        return Days(1, ())

    @classmethod
    def read(cls, text):
        """The set with just this text."""
        if not isinstance(text, str):
            raise BadText(0, 0)
        try:
            days = read_parts(text)
        except BadDays:
            raise BadText(0, 0) from None
        if str(days) != text:
            raise BadText(0, 0)
        return days

    def __contains__(self, x):
        return is_whole(x) and x % self._period in self._rests

    def following(self, d):
        """The least day of the set from the day d on, None if there is none."""
        if not is_whole(d):
            raise BadCount(d)
        for day in range(d, d + self._period):
            if day in self:
                return day
        return None

    def __rshift__(self, other):
        return Days(self._period, [(n + other) % self._period for n in self._rests])

    def __lshift__(self, other):
        return self >> -other

    def __and__(self, other):
        period = common_period(self, other)
        return Days(period, [n for n in range(period) if n in self and n in other])

    def __or__(self, other):
        period = common_period(self, other)
        return Days(period, [n for n in range(period) if n in self or n in other])

    def __sub__(self, other):
        period = common_period(self, other)
        return Days(period, [n for n in range(period) if n in self and n not in other])

    def __invert__(self):
        return Days(self._period, [n for n in range(self._period) if n not in self])

    def __le__(self, other):
        # No bound on the common period here: an order makes no set, so it is never refused.
        return all([n in other for n in range(lcm(self._period, other._period)) if n in self])

    def __lt__(self, other):
        return self <= other and not self == other

    def __ge__(self, other):
        return other <= self

    def __gt__(self, other):
        return other < self

    def __eq__(self, other):
        return isinstance(other, Days) and self._period == other._period and self._rests == other._rests

    def __bool__(self):
        return bool(self._rests)

    def __str__(self):
        if not self._rests:
            return "none"
        if self._period == 1:
            return "every"
        rests = [str(n) for n in self._rests]
        return " ".join(["by", str(self._period), "at", *rests])


def common_period(one, other):
    """The least period by which both sets come round."""
    period = lcm(one.period, other.period)
    if period > Days.MOST:
        raise TooMany("days", Days.MOST)
    return period


def read_parts(text):
    """The days that the words of a text tell of, in whatever form they stand."""
    if text == "none":
        return Days.none()
    if text == "every":
        return Days.every()
    words = text.split(" ")
    if words[0:4:2] != ["by", "at"]:
        raise BadText(0, 0)
    return Days(read_number(words[1]), [read_number(word) for word in words[3:]])
