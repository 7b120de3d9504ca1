"""Calendars with guests to try papers with, all fills by hand, and checks of papers by the words of the document."""

import functools
import itertools

from nodeadnight.books import Book
from nodeadnight.calendars import Calendar
from nodeadnight.fills import Bar, Climb, Fill, climb_of
from nodeadnight.gifts import Gifts
from nodeadnight.lengths import Lengths
from nodeadnight.ranges import NoRooms, Rooms
from nodeadnight.stays import Stay
from nodeadnight.wishes import Lot
from rows import some_book
from values import LAST, Checks, shuffled

# More than all that is climbed, also by integers of any size.
FAR = 10 ** 70


def place(stay):
    return stay.first, len(stay)


def name_of(number):
    return "".join("abcdefghij"[int(sign)] for sign in str(number))


def with_guests(source, calendar, many, longest):
    """Puts as many guests as find a room into a calendar."""
    for number in range(many):
        day = source.randrange(calendar.first, calendar.after)
        stay = Stay(day, min(calendar.after, day + source.randint(1, longest)))
        if all(calendar.free(night) for night in stay):
            calendar[name_of(number)] = stay
    return calendar


def small(source):
    """A small calendar and a book of one or several days of a round."""
    first = source.choice([0, 0, -9, 10 ** 11, -LAST, LAST - 12])
    calendar = Calendar(source.randint(1, 4), first, first + source.randint(1, 12))
    with_guests(source, calendar, source.choice([0, 0, 2, 5, 9]), source.choice([1, 2, 4]))
    book = some_book(source) if source.random() < 0.6 else Book.by_days(
        *[Lengths.of(*source.sample(range(1, 7), source.randint(1, 3))) for _ in range(source.randint(1, 3))])
    return calendar, book


def tiny(source, rooms=2):
    first = source.choice([0, 3, -5])
    calendar = Calendar(source.randint(1, rooms), first, first + source.randint(1, 6))
    with_guests(source, calendar, source.choice([0, 1, 3]), source.choice([1, 2, 4]))
    rows = [Lengths.of(*source.sample(range(1, 5), source.randint(1, 3))) for _ in range(source.randint(1, 2))]
    return calendar, Book.by_days(*rows)


def three_rooms(source):
    """A calendar of one to three rooms and one to six nights; now and then a book that lets nothing."""
    calendar, book = tiny(source, 3)
    return calendar, book if source.random() < 0.9 else Book.none()


SMALL = shuffled(91, 400, small)
TINY = shuffled(92, 150, tiny)
THREE_ROOMS = shuffled(94, 200, three_rooms)


def spans_of(calendar, book):
    """The let stays within a calendar's days, as first and after, counted from the calendar's first day."""
    return tuple((stay.first - calendar.first, stay.after - calendar.first)
                 for stay in book.let_stays(calendar.first, calendar.after))


def without(free, first, after):
    return tuple(many - (first <= at < after) for at, many in enumerate(free))


@functools.lru_cache(maxsize=None)
def fills_by_hand(free, spans):
    """The numbers of stays of all fills: which let stays lie over each night just as often as a room is free."""
    if not any(free):
        return frozenset([0])
    night = next(at for at, many in enumerate(free) if many)
    found = set()
    # Some stay of each fill begins on the first night that is not filled: whichever came earlier is there already.
    for first, after in spans:
        if first == night and all(free[at] for at in range(first, after)):
            found |= {1 + many for many in fills_by_hand(without(free, first, after), spans)}
    return frozenset(found)


def is_filled_by_hand(free, spans):
    """Whether there is a fill of these free rooms; never, if there are less than none in a night."""
    return min(free) >= 0 and len(fills_by_hand(tuple(free), spans)) > 0


def guests_of(calendar):
    return [calendar.rooms - free for free in calendar.free_rooms]


def number_of(calendar, days):
    """The number of a set of days, as the document tells it."""
    stays = [stay for _, stay in calendar.guests()]
    return sum(stay.after in days for stay in stays) - sum(stay.first in days for stay in stays)


def left_behind(calendar, stays):
    """The free rooms night by night behind the sale of stays."""
    return [calendar.free(night) - sum(night in stay for stay in stays)
            for night in range(calendar.first, calendar.after)]


class Papers(Checks):
    """Mixed into a TestCase: checks of papers by the words of the document."""

    def fills_rooms(self, calendar, book, stays, rooms):
        """Checks a tuple of let stays in order, which lie over each night just as often as told."""
        self.assertIs(type(stays), tuple)
        self.assertTrue(all(stay in book and stay.first >= calendar.first and stay.after <= calendar.after
                            for stay in stays))
        self.assertEqual([place(stay) for stay in stays], sorted(place(stay) for stay in stays))
        nights = range(calendar.first, calendar.after)
        self.assertEqual([sum(night in stay for stay in stays) for night in nights], list(rooms))

    def is_fill(self, calendar, book, stays):
        self.fills_rooms(calendar, book, stays, calendar.free_rooms)

    def is_closed(self, calendar, book, days):
        self.assertIs(type(days), tuple)
        self.same(list(days), sorted(set(days)))
        self.assertTrue(all(type(day) is int and calendar.first <= day <= calendar.after for day in days))
        for stay in book.let_stays(calendar.first, calendar.after):
            self.assertTrue(stay.first not in days or stay.after in days)

    def is_bar(self, calendar, book, days):
        self.is_closed(calendar, book, days)
        self.assertGreater(sum(calendar.supply(day) for day in days), 0)

    def are_heights(self, calendar, book, heights, least, greatest):
        """Checks heights by what each let stay within climbs at least and at most."""
        self.assertIs(type(heights), dict)
        self.same(sorted(heights), list(range(calendar.first, calendar.after + 1)))
        self.assertTrue(all(type(height) is int for height in heights.values()))
        for stay in book.let_stays(calendar.first, calendar.after):
            climbed = heights[stay.after] - heights[stay.first]
            self.assertTrue(least <= climbed <= greatest)

    def is_climb(self, calendar, book, paper, least, greatest):
        self.assertIs(type(paper), Climb)
        self.is_fill(calendar, book, paper.stays)
        self.are_heights(calendar, book, paper.heights, least, greatest)
        self.same(climb_of(calendar, paper.heights), len(paper.stays))

    def is_fill_paper(self, calendar, book, paper):
        self.assertIs(type(paper), Fill)
        self.is_fill(calendar, book, paper.stays)

    def is_bar_paper(self, calendar, book, paper):
        self.assertIs(type(paper), Bar)
        self.is_bar(calendar, book, paper.days)

    def is_gifts(self, calendar, book, paper):
        self.assertIs(type(paper), Gifts)
        self.assertIs(type(paper.nights), tuple)
        self.assertTrue(all(type(night) is int for night in paper.nights))
        self.same(list(paper.nights), sorted(paper.nights))
        nights = range(calendar.first, calendar.after)
        self.assertLessEqual(set(paper.nights), set(nights))
        left = [calendar.free(night) - paper.nights.count(night) for night in nights]
        self.fills_rooms(calendar, book, paper.stays, left)
        self.are_heights(calendar, book, paper.heights, -FAR, 0)
        self.assertTrue(all(paper.heights[night + 1] - paper.heights[night] <= 1 for night in nights))
        self.same(climb_of(calendar, paper.heights), len(paper.nights))

    def is_range(self, calendar, book, paper):
        """Checks a Rooms or a NoRooms."""
        if type(paper) is Rooms:
            self.is_rooms(calendar, book, paper)
        else:
            self.assertIs(type(paper), NoRooms)
            self.is_no_rooms(calendar, book, paper)

    def is_side(self, calendar, book, days, has_first, has_after):
        self.is_closed(calendar, book, days)
        self.same([calendar.first in days, calendar.after in days], [has_first, has_after])

    def is_rooms(self, calendar, book, paper):
        self.assertIs(type(paper.fewest), int)
        self.assertGreaterEqual(paper.fewest, 1)
        if paper.fewest == 1:
            self.same(paper.lower, None)
        else:
            self.is_side(calendar, book, paper.lower, False, True)
            self.same(number_of(calendar, paper.lower), paper.fewest)
        numbers = [paper.fewest]
        if paper.most is None:
            self.is_row(calendar, book, paper.upper)
        else:
            self.assertIs(type(paper.most), int)
            self.is_side(calendar, book, paper.upper, True, False)
            self.same(number_of(calendar, paper.upper), -paper.most)
            self.assertGreaterEqual(paper.most, paper.fewest)
            numbers = sorted({paper.fewest, paper.most})
        self.assertIs(type(paper.filled), tuple)
        self.same(len(paper.filled), len(numbers))
        for stays, rooms in zip(paper.filled, numbers):
            self.fills_rooms(calendar, book, stays, [rooms - many for many in guests_of(calendar)])

    def is_row(self, calendar, book, row):
        self.assertIs(type(row), tuple)
        self.assertTrue(all(type(stay) is Stay and stay in book for stay in row))
        self.same([row[0].first, row[-1].after], [calendar.first, calendar.after])
        self.assertTrue(all(one.after == other.first for one, other in itertools.pairwise(row)))

    def is_no_rooms(self, calendar, book, paper):
        if paper.both is not None:
            self.same([paper.lower, paper.upper], [None, None])
            self.is_closed(calendar, book, paper.both)
            self.same(calendar.first in paper.both, calendar.after in paper.both)
            self.assertGreater(number_of(calendar, paper.both), 0)
            return
        self.is_side(calendar, book, paper.upper, True, False)
        least = 1
        if paper.lower is not None:
            self.is_side(calendar, book, paper.lower, False, True)
            least = number_of(calendar, paper.lower)
        self.assertLess(-number_of(calendar, paper.upper), least)

    def is_lot(self, calendar, book, wishes, paper):
        self.assertIs(type(paper), Lot)
        self.assertIs(type(paper.taken), tuple)
        self.assertTrue(all(type(at) is int and 0 <= at < len(wishes) for at in paper.taken))
        self.same(list(paper.taken), sorted(set(paper.taken)))
        self.fills_rooms(calendar, book, paper.stays, left_behind(calendar, [wishes[at][0] for at in paper.taken]))
        self.same(paper.worth, sum(wishes[at][1] for at in paper.taken))
        self.are_heights(calendar, book, paper.heights, 0, FAR)
        beyond = [worth - paper.heights[stay.after] + paper.heights[stay.first] for stay, worth in wishes]
        self.same(climb_of(calendar, paper.heights) + sum(max(0, more) for more in beyond), paper.worth)
