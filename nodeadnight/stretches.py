"""Stretches of free nights, and the rows of let stays that fill them."""

from nodeadnight.basics import is_day, is_from
from nodeadnight.books import check_book, check_day
from nodeadnight.days import Days
from nodeadnight.errors import BadCount, BadStay, BadStretch, Outside
from nodeadnight.stays import Stay
from nodeadnight.steady import check_book_size, filled, walked

MOST_NIGHTS = 400


class Stretch:
    """Nights that begin on a day: a number of them, or endlessly many, if nights is None."""

    def __init__(self, day, nights):
        if not is_day(day):
            raise BadStretch("day")
        if nights is not None and not is_from(nights, 0, MOST_NIGHTS):
            raise BadStretch("nights")
        self.day = day
        self.nights = nights

    @property
    def is_endless(self):
        """Whether the nights have no end."""
        return self.nights is None

    def has_stay(self, stay):
        """Whether a stay is in the stretch, with at most 400 nights ahead of it."""
        if not 0 <= stay.first - self.day <= MOST_NIGHTS:
            return False
        return self.nights is None or stay.after <= self.day + self.nights

    def __sub__(self, other):
        if not self.has_stay(other):
            raise Outside(other)
        left = None if self.nights is None else self.day + self.nights - other.after
        return Stretch(self.day, other.first - self.day), Stretch(other.after, left)

    def __eq__(self, other):
        return isinstance(other, Stretch) and self.day == other.day and self.nights == other.nights

    def __str__(self):
        if self.nights is None:
            return f"{self.day}+"
        return f"{self.day}+{self.nights}"


def fillable(book, day):
    """The Lengths of the numbers of nights of the live stretches that begin on a day."""
    check_book(book, "book")
    check_day(day)
    check_book_size(book)
    return filled(walked(book, day))


def alive(book):
    """The days on which an endless row of let stays can begin."""
    check_book(book, "book")
    turn = book.round
    ends = [days_behind(book, day) for day in range(turn)]
    living = list(range(turn))
    # From a day that is left after as many rounds as there are days, a row leads on to such days again and again.
    for _ in range(turn):
        living = [day for day in living if any([end in living for end in ends[day]])]
    return Days(turn, living)


def is_live(book, stretch):
    """Whether a row of let stays fills a stretch; an endless row an endless one."""
    check_book(book, "book")
    if not isinstance(stretch, Stretch):
        raise BadStretch("stretch")
    if stretch.nights is None:
        return stretch.day in alive(book)
    return is_filled(choices(book, stretch.day, stretch.nights))


def row_of(book, day, nights):
    """The first one of the rows of let stays that fill so many nights from a day, None if there is none."""
    check_row(book, day, nights)
    found = choices(book, day, nights)
    if not is_filled(found):
        return None
    check_end(day, nights)
    return stays_of(day, completed([], found))


def rows_of(book, day, nights):
    """Yields the rows of let stays that fill so many nights from a day, in the order of their numbers of nights."""
    check_row(book, day, nights)
    found = choices(book, day, nights)
    if not is_filled(found):
        return
    check_end(day, nights)
    row = completed([], found)
    while row is not None:
        yield stays_of(day, row)
        row = next_row(row, found)


def fewest(book, day, nights):
    """The fewest stays of a row of let stays that fills so many nights from a day, None if there is none."""
    check_row(book, day, nights)
    return bounds_of(choices(book, day, nights))[0]


def most(book, day, nights):
    """The most stays of a row of let stays that fills so many nights from a day, None if there is none."""
    check_row(book, day, nights)
    return bounds_of(choices(book, day, nights))[1]


def ways(book, day, nights):
    """How many rows of let stays fill so many nights from a day."""
    check_row(book, day, nights)
    found = choices(book, day, nights)
    many = [0 for _ in range(nights)] + [1]
    for at in reversed(range(nights)):
        many[at] = sum([many[at + k] for k in found[at]])
    return many[0]


def check_row(book, day, nights):
    """Refuses the first argument of what asks for rows that is wrong."""
    check_book(book, "book")
    check_day(day)
    if not is_from(nights, 0, MOST_NIGHTS):
        raise BadCount(nights)


def check_end(day, nights):
    """Refuses a row that ends behind the last day."""
    if not is_day(day + nights):
        raise BadStay("after")


def days_behind(book, day):
    """The days of the round on which the let stays from a day of it end."""
    lengths, turn = book.lengths_on(day), book.round
    # Behind the start, all numbers of nights come round by the period, and their ends by the round.
    numbers = range(1, lengths.start + lengths.period * turn + 1)
    return sorted(set([(day + k) % turn for k in numbers if k in lengths]))


def choices(book, day, nights):
    """For each number of nights filled, the numbers of nights of a next stay from which all nights can be filled."""
    turn = book.round
    lengths = [book.lengths_on((day + at) % turn) for at in range(turn)]
    numbers = [[k for k in range(1, nights + 1) if k in each] for each in lengths]
    found = [[] for _ in range(nights + 1)]
    for at in reversed(range(nights)):
        found[at] = [k for k in numbers[at % turn] if at + k == nights or at + k < nights and found[at + k]]
    return found


def is_filled(found):
    """Whether choices lead from the first night to the last."""
    return len(found) == 1 or len(found[0]) > 0


def bounds_of(found):
    """The fewest and the most stays of a row by these choices, both None if there is none."""
    few, many = [0 for _ in found], [0 for _ in found]
    for at in reversed(range(len(found) - 1)):
        few[at] = 1 + min([few[at + k] for k in found[at]], key=int, default=0)
        many[at] = 1 + max([many[at + k] for k in found[at]], key=int, default=0)
    return (few[0], many[0]) if is_filled(found) else (None, None)


def completed(row, found):
    """The numbers of nights of a row, followed by the least ones that complete it."""
    told = list(row)
    at = sum(told)
    while at < len(found) - 1:
        told.append(found[at][0])
        at = at + found[at][0]
    return told


def next_row(row, found):
    """The numbers of nights of the row behind a row, None behind the last one."""
    ahead = list(row)
    while ahead:
        last = ahead.pop()
        later = [k for k in found[sum(ahead)] if k > last]
        if later:
            return completed([*ahead, later[0]], found)
    return None


def stays_of(day, row):
    """The row of stays from a day with these numbers of nights."""
    stays = []
    first = day
    for nights in row:
        stays.append(Stay(first, first + nights))
        first = first + nights
    return tuple(stays)
