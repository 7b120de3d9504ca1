"""Points [2], [9] and [10], and the heading nodeadnight/gifts.py."""

import functools
import time
import unittest

from nodeadnight.books import Book
from nodeadnight.calendars import Calendar
from nodeadnight.errors import BadBook, BadCalendar
from nodeadnight.fills import Paper, is_sellable
from nodeadnight.gifts import Gifts, fewest_gifts
from nodeadnight.lengths import Lengths
from nodeadnight.rules import Lasts
from nodeadnight.stays import Stay
from papers import SMALL, THREE_ROOMS, TINY, Papers, spans_of, with_guests, without
from values import LAST, VALUES, Checks, none_of, shuffled

TWOS = Book(Lasts(Lengths.of(2)))


@functools.lru_cache(maxsize=None)
def gifts_by_hand(free, spans):
    """The fewest gifts of all rows of stays and gifts that lie over each night just as often as a room is free."""
    if not any(free):
        return 0
    night = next(at for at, many in enumerate(free) if many)
    rows = [gifts_by_hand(without(free, first, after), spans) for first, after in spans
            if first == night and all(free[at] for at in range(first, after))]
    return min([1 + gifts_by_hand(without(free, night, night + 1), spans), *rows])


class GiftsTest(Papers, unittest.TestCase):
    def check(self, calendar, book):
        paper = fewest_gifts(calendar=calendar, book=book)
        self.is_gifts(calendar, book, paper)
        self.same(len(paper.nights) == 0, is_sellable(calendar, book))
        return len(paper.nights)

    def test_against_all_rows(self):
        found = []
        for calendar, book in TINY + THREE_ROOMS:
            many = self.check(calendar, book)
            self.same(many, gifts_by_hand(calendar.free_rooms, spans_of(calendar, book)))
            found.append(many)
        self.assertTrue(all(many in found for many in range(6)))

    def test_small(self):
        for calendar, book in SMALL:
            self.check(calendar, book)

    def test_guests_whose_stays_are_not_let(self):
        calendar = Calendar(2, 0, 5)
        calendar["ann"] = Stay(1, 2)
        calendar["bo"] = Stay(2, 5)
        self.same(self.check(calendar, TWOS), 2)
        self.same(self.check(calendar, Book(Lasts(Lengths.of(1)))), 0)

    def test_books_that_let_nothing(self):
        for rooms, nights in [(1, 1), (3, 6), (12, 40)]:
            paper = fewest_gifts(Calendar(rooms, 5, 5 + nights), Book.none())
            self.assertEqual(paper.nights, tuple(night for night in range(5, 5 + nights) for _ in range(rooms)))
            self.same(paper.stays, ())
        calendar = Calendar(1, 0, 3)
        calendar["ann"] = Stay(0, 3)
        self.same([fewest_gifts(calendar, Book.none()).nights, fewest_gifts(calendar, TWOS).nights], [(), ()])

    def test_each_night_as_often_as_a_room_is_given(self):
        paper = fewest_gifts(Calendar(3, 0, 3), Book.by_days(Lengths.of(2), Lengths.none(), Lengths.none()))
        self.same([paper.nights, len(paper.stays)], [(2, 2, 2), 3])

    def test_last_days(self):
        for calendar in [Calendar(2, LAST - 5, LAST), Calendar(2, -LAST, 5 - LAST)]:
            self.same(self.check(calendar, TWOS), 2)

    def test_greatest(self):
        begin = time.perf_counter()
        source = shuffled(95, 1, lambda source: source)[0]
        for nights in [1, 3, 9, 40]:
            for rows in [[Lengths.since(1)], [Lengths.of(7)], [Lengths.since(2)], [Lengths.of(40)],
                         [Lengths.since(3)] * 3 + [Lengths.of(1, 2, 5)], [Lengths.none()] * 6 + [Lengths.of(3, 8)]]:
                self.check(with_guests(source, Calendar(12, -20, 20), 100, nights), Book.by_days(*rows))
        self.assertLess(time.perf_counter() - begin, 60)

    def test_arguments_stay_as_they_are(self):
        for calendar, book in SMALL[:60]:
            twin, text = calendar.twin(), str(book)
            first = fewest_gifts(calendar, book)
            self.same([twin == calendar, twin.names == calendar.names, str(book) == text], [True, True, True])
            self.same(fewest_gifts(twin, book) == first, True)

    def test_wrong_values(self):
        for value in none_of(Calendar):
            self.refused(BadCalendar, {"part": "calendar"}, fewest_gifts, value, value)
            self.refused(BadCalendar, {"part": "calendar"}, fewest_gifts, value, TWOS)
        for value in none_of(Book):
            self.refused(BadBook, {"part": "book"}, fewest_gifts, Calendar(1, 0, 1), value)


class PaperTest(Checks, unittest.TestCase):
    def test_paper(self):
        self.same(issubclass(Gifts, Paper), True)
        self.defines(Gifts, ["__init__", "__eq__"])
        self.holds(Gifts, ["stays", "nights", "heights"])
        self.alone(Gifts((), (), {}), VALUES)


if __name__ == "__main__":
    unittest.main()
