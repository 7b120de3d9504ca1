"""Books: the sets of the stays that are let."""

from math import lcm

from nodeadnight.basics import is_day, is_whole, least_period
from nodeadnight.errors import BadBook, BadCount, TooMany
from nodeadnight.lengths import Lengths, check_size
from nodeadnight.rules import Both, DayRule, Either, Lasts, LengthRule, Not, Rule
from nodeadnight.stays import Stay, check_stay


class Book:
    """The stays that a rule lets, kept as the Lengths of the days of a round, the least one."""

    ROUND = 7

    def __init__(self, rule):
        if not isinstance(rule, Rule):
            raise BadBook("rule")
        leaves = leaves_of(rule)
        turn = common_period([leaf.days.period for leaf in leaves if isinstance(leaf, DayRule)])
        check_round(turn)
        sets = [leaf.lengths for leaf in leaves if isinstance(leaf, LengthRule)]
        start = max([turn] + [each.start for each in sets], key=int)
        period = common_period([turn] + [each.period for each in sets])
        check_size(start, period)
        self._rows = least_rows([lengths_let(rule, day, start, period) for day in range(turn)])

    @property
    def round(self):
        """The least number of days by which all let stays can be moved."""
        return len(self._rows)

    @property
    def size(self):
        """The greatest start of the Lengths of its days, with the common period of these and of the round."""
        return greatest_start(self) + whole_period(self)

    @staticmethod
    def by_days(*lengths):
        """The book by the numbers of nights that each day of a round lets, from day 0 on; 0 plays no part."""
        if not 1 <= len(lengths) <= Book.ROUND or not all([isinstance(each, Lengths) for each in lengths]):
            raise BadBook("lengths")
        # There is no rule for every such book, so its rows take the place of those of a rule.
        book = Book(Lasts(Lengths.none()))
        book._rows = least_rows([without_zero(each) for each in lengths])
        return book

    @staticmethod
    def every():
        """The book of all stays."""
        return Book.by_days(Lengths.every())

    @staticmethod
    def none():
        """The book without stays."""
        return Book.by_days(Lengths.none())

    def lengths_on(self, day):
        """The numbers of nights of the let stays that begin on a day."""
        check_day(day)
        return self._rows[day % len(self._rows)]

    def lets(self, day, nights):
        """Whether the stay from a day with a number of nights is let, however many they are."""
        check_day(day)
        if not is_whole(nights) or nights < 1:
            raise BadCount(nights)
        return nights in self._rows[day % len(self._rows)]

    def let_stays(self, first, after):
        """Yields the let stays within the days from first to after, in order."""
        if not self:
            return
        for day in range(first, after):
            lengths = self.lengths_on(day)
            for nights in range(1, min(int(after - day), Stay.MOST) + 1):
                if nights in lengths:
                    yield Stay(day, day + nights)

    def __call__(self, stay):
        check_stay(stay)
        return stay in self

    def __contains__(self, x):
        return isinstance(x, Stay) and len(x) in self._rows[x.first % len(self._rows)]

    def __and__(self, other):
        days = common_days(self, other)
        rows = [self.lengths_on(day) & other.lengths_on(day) for day in days]
        return Book.by_days(*rows)

    def __or__(self, other):
        days = common_days(self, other)
        rows = [self.lengths_on(day) | other.lengths_on(day) for day in days]
        return Book.by_days(*rows)

    def __sub__(self, other):
        days = common_days(self, other)
        rows = [self.lengths_on(day) - other.lengths_on(day) for day in days]
        return Book.by_days(*rows)

    def __invert__(self):
        rows = [~row for row in self._rows]
        return Book.by_days(*rows)

    def __le__(self, other):
        # No bound on the common round here: an order makes no book, so it is never refused.
        return all([self.lengths_on(day) <= other.lengths_on(day) for day in range(lcm(self.round, other.round))])

    def __lt__(self, other):
        return self <= other and not self == other

    def __ge__(self, other):
        return other <= self

    def __gt__(self, other):
        return other < self

    def __eq__(self, other):
        return isinstance(other, Book) and self._rows == other._rows

    def __bool__(self):
        return any([bool(row) for row in self._rows])

    def __str__(self):
        return " ".join([f"day {row}" for row in self._rows])


def check_book(value, part):
    """Refuses any value that is no book."""
    if not isinstance(value, Book):
        raise BadBook(part)


def check_day(value):
    """Refuses any value that is no day."""
    if not is_day(value):
        raise BadCount(value)


def check_round(turn):
    """Refuses a round that is too great."""
    if turn > Book.ROUND:
        raise TooMany("round", Book.ROUND)


def leaves_of(rule):
    """The rules in a rule that have no rules in them."""
    if isinstance(rule, Not):
        return leaves_of(rule.rule)
    if isinstance(rule, (Both, Either)):
        return leaves_of(rule.one) + leaves_of(rule.other)
    return [rule]


def common_period(periods):
    """The least common multiple of several periods."""
    turn = 1
    for period in periods:
        turn = lcm(turn, period)
    return turn


def common_days(one, other):
    """The days from 0 on by which two books come round together."""
    turn = lcm(one.round, other.round)
    check_round(turn)
    return list(range(turn))


def lengths_let(rule, day, start, period):
    """The numbers of nights that a rule lets from a day, if they come round from start on."""
    low = [n for n in range(1, start) if rule.allows(day, n)]
    return Lengths(start, low, period, [n % period for n in range(start, start + period) if rule.allows(day, n)])


def without_zero(lengths):
    """A Lengths without the 0."""
    if 0 not in lengths:
        return lengths
    start = max(1, lengths.start)
    return Lengths(start, [n for n in range(1, start) if n in lengths], lengths.period, lengths.rests)


def least_rows(rows):
    """The Lengths of the days of the least round."""
    return tuple(rows[:least_period(rows)])


def greatest_start(book):
    """The greatest start of the Lengths of the days of a book."""
    return max([book.lengths_on(day).start for day in range(book.round)], key=int)


def whole_period(book):
    """The least common multiple of the round of a book and of the periods of its Lengths."""
    return common_period([book.round] + [book.lengths_on(day).period for day in range(book.round)])
