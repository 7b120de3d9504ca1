"""Points [2], [8] and [11], and the heading nodeadnight/ranges.py."""

import itertools
import time
import unittest

from nodeadnight.books import Book
from nodeadnight.calendars import Calendar
from nodeadnight.errors import BadBook, BadCalendar, Full
from nodeadnight.fills import Paper
from nodeadnight.lengths import Lengths
from nodeadnight.ranges import NoRooms, Rooms, rooms_for
from nodeadnight.reader import read_book
from nodeadnight.rules import Lasts
from nodeadnight.stays import Stay
from papers import (
    SMALL, THREE_ROOMS, TINY, Papers, guests_of, is_filled_by_hand, name_of, number_of, spans_of, with_guests,
)
from values import LAST, VALUES, Checks, none_of, shuffled

TWOS = Book(Lasts(Lengths.of(2)))
THREES = Book(Lasts(Lengths.of(3)))


# Nights, guests, a book, and the least and the greatest number of rooms that does.
TWO_FILLS = [
    (3, "0+1 2+1 0+1 2+1 0+1", "day 2 4 day 1 2", 3, 5),
    (5, "3+2 3+2 0+2 3+2 1+3", "day 1 3 day none", 4, 5),
    (4, "0+2 2+2 3+1 0+2 3+1", "day 3 day 2 day 1 2", 3, 4),
    (5, "0+1 1+1 3+1 1+1 3+1 3+1 0+1", "day 1 3 day none", 3, 5),
    (5, "3+1 0+1 4+1 3+1 0+1 1+1 2+1 4+1 1+1", "day 3 day 4 day 1 3 day 3 4 day 4 day 4 day 1", 2, 3),
    (4, "0+1 1+1 3+1 2+1 0+1 3+1 1+1 0+1 0+1 1+1", "day 3 day 1 2 day 2 day 4 day 1 day none day 2 3", 4, 5),
]


def closed_sets(calendar, book):
    """All closed sets of days."""
    stays = list(book.let_stays(calendar.first, calendar.after))
    days = range(calendar.first, calendar.after + 1)
    for many in range(len(days) + 1):
        for chosen in itertools.combinations(days, many):
            if all(stay.after in chosen for stay in stays if stay.first in chosen):
                yield chosen


def put(calendar, *stays):
    for number, stay in enumerate(stays):
        calendar[name_of(number)] = stay
    return calendar


class Ranges(Papers):
    """Mixed into a TestCase."""

    def check(self, calendar, book):
        """Checks the paper of a calendar, and returns it."""
        paper = rooms_for(calendar=calendar, book=book)
        self.is_range(calendar, book, paper)
        return paper


def does(paper, rooms):
    """Whether a number of rooms does, by what a paper tells."""
    return type(paper) is Rooms and paper.fewest <= rooms and (paper.most is None or rooms <= paper.most)


class RangesTest(Ranges, unittest.TestCase):
    def test_against_all_rows(self):
        kinds = set()
        for calendar, book in TINY + THREE_ROOMS:
            paper = self.check(calendar, book)
            guests, spans = guests_of(calendar), spans_of(calendar, book)
            for rooms in range(1, 15):
                by_hand = is_filled_by_hand([rooms - many for many in guests], spans)
                self.same(does(paper, rooms), by_hand)
            kinds.add((type(paper), paper.lower is None, paper.upper is None,
                       type(paper) is Rooms and paper.most is None, type(paper) is Rooms and len(paper.filled)))
        for kind in [(Rooms, True, False, True, 1), (Rooms, False, False, True, 1), (Rooms, True, False, False, 1),
                     (NoRooms, True, False, False, False), (NoRooms, False, False, False, False),
                     (NoRooms, True, True, False, False)]:
            self.assertIn(kind, kinds)

    def test_against_all_closed_sets(self):
        for calendar, book in TINY + THREE_ROOMS:
            sets = list(closed_sets(calendar, book))
            paper = rooms_for(calendar, book)
            for rooms in range(1, 40):
                supplies = [number_of(calendar, days) + rooms * ((calendar.first in days) - (calendar.after in days))
                            for days in sets]
                self.same(does(paper, rooms), max(supplies) <= 0)

    def test_small(self):
        for calendar, book in SMALL:
            self.check(calendar, book)

    def test_own_number_of_rooms_plays_no_part(self):
        for calendar, book in TINY + THREE_ROOMS:
            paper = rooms_for(calendar, book)
            for rooms in range(1, 13):
                try:
                    other = calendar.with_rooms(rooms)
                except Full:
                    continue
                self.same(rooms_for(other, book) == paper, True)

    def test_known(self):
        for nights, paper in [
            (1, NoRooms(None, (0,), None)), (2, Rooms(1, None, None, (Stay(0, 2),), ((Stay(0, 2),),))),
            (3, NoRooms(None, (0, 2), None)),
        ]:
            self.assertEqual(rooms_for(Calendar(7, 0, nights), TWOS), paper)

    def test_one_number_alone(self):
        calendar = put(Calendar(3, 0, 3), Stay(0, 1), Stay(1, 3), Stay(0, 1), Stay(1, 3))
        paper = self.check(calendar, TWOS)
        self.same([paper.fewest, paper.most, paper.filled], [2, 2, ((),)])

    def test_two_fills(self):
        for nights, stays, text, least, greatest in TWO_FILLS:
            calendar, book = put(Calendar(12, 0, nights), *map(Stay.read, stays.split())), read_book(text)
            paper = self.check(calendar, book)
            self.same([paper.fewest, paper.most, len(paper.filled)], [least, greatest, 2])
            guests, spans = guests_of(calendar), spans_of(calendar, book)
            for rooms in range(1, 15):
                self.same(least <= rooms <= greatest, is_filled_by_hand([rooms - many for many in guests], spans))
            moved = Calendar(12, 420 - LAST // 420 * 420, 420 - LAST // 420 * 420 + nights)
            put(moved, *[stay >> moved.first for _, stay in calendar.guests()])
            self.same([self.check(moved, book).fewest, self.check(moved, book).most], [least, greatest])

    def test_more_rooms_than_a_calendar_can_have(self):
        stays = [Stay(0, 1)] * 12 + [Stay(2, 3)] * 12
        paper = self.check(put(Calendar(12, 0, 5), *stays), TWOS)
        self.same([paper.fewest, paper.most, paper.lower, paper.upper], [24, 24, (1, 3, 5), (0, 2, 4)])
        far = put(Calendar(12, 0, 39), *[Stay(day, day + 1) for day in range(0, 16, 2) for _ in range(12)])
        paper = self.check(far, TWOS)
        self.same([paper.fewest, paper.most], [96, 96])
        even = Book.by_days(Lengths.of(2, 39), Lengths.of(2))
        paper = self.check(far, even)
        self.same([paper.fewest, paper.most], [96, None])

    def test_rows_of_guests_that_fill_some_rooms(self):
        calendar = put(Calendar(4, 0, 4), Stay(0, 1), Stay(1, 4), Stay(0, 2), Stay(2, 4))
        self.same([self.check(calendar, TWOS).fewest, self.check(calendar, TWOS).most], [2, None])
        self.same([self.check(calendar, THREES).fewest, self.check(calendar, THREES).most], [2, 2])
        alone = put(Calendar(4, 0, 1), *[Stay(0, 1)] * 4)
        self.assertEqual(rooms_for(alone, TWOS), Rooms(4, 4, (1,), (0,), ((),)))

    def test_set_with_both_or_neither(self):
        # A stay ends on day 1 or begins there, and no let stay makes up for it.
        self.assertEqual(rooms_for(put(Calendar(2, 0, 4), Stay(0, 1)), TWOS), NoRooms(None, None, (1, 3)))
        paper = self.check(put(Calendar(2, 0, 4), Stay(1, 4)), TWOS)
        self.same(set(paper.both), {0, 2, 4})

    def test_last_days(self):
        for calendar in [Calendar(2, LAST - 6, LAST), Calendar(2, -LAST, 6 - LAST)]:
            self.same([self.check(calendar, TWOS).most, self.check(calendar, Book.none()).lower], [None, None])

    def test_greatest(self):
        begin = time.perf_counter()
        source = shuffled(97, 1, lambda source: source)[0]
        for nights in [1, 3, 9, 40]:
            for rows in [[Lengths.since(1)], [Lengths.of(7)], [Lengths.since(2)], [Lengths.of(40)],
                         [Lengths.since(3)] * 3 + [Lengths.of(1, 2, 5)], [Lengths.none()] * 6 + [Lengths.of(3, 8)]]:
                self.check(with_guests(source, Calendar(12, -20, 20), 100, nights), Book.by_days(*rows))
        self.assertLess(time.perf_counter() - begin, 60)

    def test_arguments_stay_as_they_are(self):
        for calendar, book in SMALL[:60]:
            twin, text = calendar.twin(), str(book)
            first = rooms_for(calendar, book)
            self.same([twin == calendar, twin.names == calendar.names, str(book) == text], [True, True, True])
            self.same(rooms_for(twin, book) == first, True)

    def test_wrong_values(self):
        for value in none_of(Calendar):
            self.refused(BadCalendar, {"part": "calendar"}, rooms_for, value, value)
            self.refused(BadCalendar, {"part": "calendar"}, rooms_for, value, TWOS)
        for value in none_of(Book):
            self.refused(BadBook, {"part": "book"}, rooms_for, Calendar(1, 0, 1), value)


class PapersTest(Checks, unittest.TestCase):
    def test_papers(self):
        for kind, names in [(Rooms, ["fewest", "most", "lower", "upper", "filled"]),
                            (NoRooms, ["lower", "upper", "both"])]:
            self.same(issubclass(kind, Paper), True)
            self.defines(kind, ["__init__", "__eq__"])
            self.holds(kind, names)
        rooms, none = Rooms(2, 2, (9,), (7,), ((),)), NoRooms((9,), (7,), None)
        self.alone(rooms, [*VALUES, none])
        self.alone(none, [*VALUES, rooms])


if __name__ == "__main__":
    unittest.main()
