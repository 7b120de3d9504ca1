"""Sets of numbers of nights that come round."""

from math import gcd, lcm

from nodeadnight.basics import are_from, is_from, is_whole, least_period, marked, read_number
from nodeadnight.errors import BadCount, BadLengths, BadText, TooMany


class Lengths:
    """A set of integers from 0 on that comes round, in its least form."""

    MOST = 400

    def __init__(self, start, low=(), period=1, rests=()):
        check_parts(start, low, period, rests)
        near = marked(start, low)
        turn = marked(period, rests)
        step = least_period(turn)
        astray = [n for n in range(start) if near[n] != turn[n % step]]
        begin = astray[-1] + 1 if astray else 0
        check_size(begin, step)
        self._start = begin
        self._period = step
        self._low = tuple([n for n in range(begin) if near[n]])
        self._rests = tuple([n for n in range(step) if turn[n]])
        # Kept for membership: the numbers below start and the first period from it on.
        self._marks = tuple(near[:begin] + [turn[n % step] for n in range(begin, begin + step)])

    @property
    def start(self):
        """The least number from which the set comes round by its least period."""
        return self._start

    @property
    def period(self):
        """The least period."""
        return self._period

    @property
    def low(self):
        """The members below start, ascending."""
        return self._low

    @property
    def rests(self):
        """What the members from start on leave modulo the period, ascending."""
        return self._rests

    @property
    def is_finite(self):
        """Whether the set has an end."""
        return not self._rests

    @property
    def least(self):
        """The least member, None if there is none."""
        return self.at_least(0)

    @property
    def last_gap(self):
        """The greatest number that is no member, -1 if all are, None if endlessly many are not."""
        if len(self._rests) < self._period:
            return None
        return self._start - 1

    @staticmethod
    def of(*numbers):
        """The set of just these numbers."""
        for number in numbers:
            check_argument(number, 0, Lengths.MOST - 1)
        return Lengths(Lengths.MOST, numbers)

    @staticmethod
    def since(least):
        """The set of all numbers from least on."""
        check_argument(least, 0, Lengths.MOST - 1)
        return Lengths(least, (), 1, (0,))

    @staticmethod
    def steps(first, by):
        """The set of first, first + by and so on."""
        check_argument(first, 0, Lengths.MOST - 1)
        check_argument(by, 1, Lengths.MOST)
        return Lengths(first, (), by, (first % by,))

    @staticmethod
    def every():
        """The set of all integers from 0 on."""
        return Lengths(0, (), 1, (0,))

    @staticmethod
    def none():
        """The set without members."""
        return Lengths(0)

    @classmethod
    def read(cls, text):
        """The set with just this text."""
        if not isinstance(text, str):
            raise BadText(0, 0)
        try:
            lengths = read_parts(text)
        except (BadLengths, TooMany):
            raise BadText(0, 0) from None
        if str(lengths) != text:
            raise BadText(0, 0)
        return lengths

    def __contains__(self, x):
        if not is_whole(x) or x < 0:
            return False
        if x < self._start:
            return self._marks[x]
        return self._marks[self._start + (x - self._start) % self._period]

    def at_least(self, n):
        """The least member from n on, None if there is none."""
        check_number(n)
        for k in range(n, max(int(n), self._start) + self._period):
            if k in self:
                return k
        return None

    def below(self, n):
        """How many members are below n."""
        check_number(n)
        if n <= self._start:
            return self._marks[:n].count(True)
        turns, rest = divmod(n - self._start, self._period)
        last = self._marks[self._start:self._start + rest]
        return len(self._low) + turns * len(self._rests) + last.count(True)

    def members(self):
        """Yields the members, ascending, without an end if they have none."""
        n = self.least
        while n is not None:
            yield n
            n = self.at_least(n + 1)

    def __and__(self, other):
        start, period = common_form(self, other)
        return gathered(start, period, [n for n in range(start + period) if n in self and n in other])

    def __or__(self, other):
        start, period = common_form(self, other)
        return gathered(start, period, [n for n in range(start + period) if n in self or n in other])

    def __sub__(self, other):
        start, period = common_form(self, other)
        return gathered(start, period, [n for n in range(start + period) if n in self and n not in other])

    def __invert__(self):
        start, period = self._start, self._period
        return gathered(start, period, [n for n in range(start + period) if n not in self])

    def __le__(self, other):
        return not have_common(self, ~other)

    def __lt__(self, other):
        return self <= other and not self == other

    def __ge__(self, other):
        return other <= self

    def __gt__(self, other):
        return other < self

    def __eq__(self, other):
        return isinstance(other, Lengths) and self._start == other._start and self._marks == other._marks

    def __bool__(self):
        return any(self._marks)

    def __str__(self):
        words = [str(n) for n in self._low]
        if self._rests:
            rests = [str(n) for n in self._rests]
            words = [*words, "from", str(self._start), "by", str(self._period), "at", *rests]
        if not words:
            return "none"
        return " ".join(words)


def check_parts(start, low, period, rests):
    """Refuses the first argument of a Lengths that is wrong."""
    if not is_from(start, 0, Lengths.MOST):
        raise BadLengths("start")
    if not are_from(low, 0, start - 1):
        raise BadLengths("low")
    if not is_from(period, 1, Lengths.MOST):
        raise BadLengths("period")
    if not are_from(rests, 0, period - 1):
        raise BadLengths("rests")


def check_size(start, period):
    """Refuses a form that is too great."""
    if start + period > Lengths.MOST:
        raise TooMany("lengths", Lengths.MOST)


def check_argument(value, least, most):
    """Refuses any value that is no integer from least to most."""
    if not is_from(value, least, most):
        raise BadCount(value)


def check_number(value):
    """Refuses any value that is no integer from 0 on."""
    if not is_whole(value) or value < 0:
        raise BadCount(value)


def common_form(one, other):
    """A start and a period by which both sets come round."""
    start = max(int(one.start), other.start)
    period = lcm(one.period, other.period)
    check_size(start, period)
    return start, period


def gathered(start, period, numbers):
    """The set that comes round by a start and a period, of its members below both together."""
    low = [n for n in numbers if n < start]
    return Lengths(start, low, period, [n % period for n in numbers if n >= start])


def have_common(one, other):
    """Whether two sets have a common member, however far it lies."""
    for n in range(max(int(one.start), other.start)):
        if n in one and n in other:
            return True
    # Numbers with two given rests exist exactly if these agree modulo the greatest common divisor,
    # so sets whose common period is too great for a Lengths can be compared, too.
    step = gcd(one.period, other.period)
    return len({n % step for n in one.rests} & {n % step for n in other.rests}) > 0


def read_parts(text):
    """The set that the words of a text tell of, in whatever form they stand."""
    if text == "none":
        return Lengths.none()
    words = text.split(" ")
    if "from" not in words:
        return Lengths(Lengths.MOST, [read_number(word) for word in words])
    at = words.index("from")
    low, form = words[:at], words[at:]
    if form[0:6:2] != ["from", "by", "at"]:
        raise BadText(0, 0)
    start, period = read_number(form[1]), read_number(form[3])
    rests = [read_number(word) for word in form[5:]]
    return Lengths(start, [read_number(word) for word in low], period, rests)
