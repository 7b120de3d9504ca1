"""Points [2], [8] and [9], and the heading nodeadnight/fills.py."""

import itertools
import time
import unittest

from nodeadnight.books import Book
from nodeadnight.calendars import Calendar
from nodeadnight.errors import BadBook, BadCalendar, Dead
from nodeadnight.fills import (
    Bar, Climb, Fill, Paper, climb_of, fewest_stays, fill_of, is_sellable, most_stays,
)
from nodeadnight.lengths import Lengths
from nodeadnight.rules import Comes, Lasts
from nodeadnight.days import Days
from nodeadnight.stays import Stay
from papers import SMALL, TINY, Papers, fills_by_hand, spans_of, with_guests
from values import LAST, VALUES, Checks, none_of, shuffled

TWOS = Book(Lasts(Lengths.of(2)))
PAIRS_AND_THREES = Book(Lasts(Lengths.of(2, 3)))

WORKS = [fill_of, is_sellable, fewest_stays, most_stays]


class PapersTest(Papers, unittest.TestCase):
    def check(self, calendar, book):
        """Checks all papers of a calendar; tells whether it is sellable."""
        paper = fill_of(calendar=calendar, book=book)
        if type(paper) is Fill:
            self.is_fill(calendar, book, paper.stays)
            self.same(is_sellable(calendar, book), True)
            self.is_climb(calendar, book, fewest_stays(calendar, book), -10 ** 9, 1)
            self.is_climb(calendar, book, most_stays(calendar, book), 1, 10 ** 9)
            return True
        self.assertIs(type(paper), Bar)
        self.is_bar(calendar, book, paper.days)
        self.same(is_sellable(calendar=calendar, book=book), False)
        for work in [fewest_stays, most_stays]:
            with self.assertRaises(Dead) as caught:
                work(calendar=calendar, book=book)
            self.is_bar(calendar, book, caught.exception.bar)
        return False

    def test_small(self):
        many = sum(self.check(calendar, book) for calendar, book in SMALL)
        self.assertTrue(100 < many < 300, many)

    def test_against_all_fills(self):
        for calendar, book in TINY:
            numbers = fills_by_hand(calendar.free_rooms, spans_of(calendar, book))
            self.same(is_sellable(calendar, book), len(numbers) > 0)
            if numbers:
                self.same(len(fewest_stays(calendar, book).stays), min(numbers))
                self.same(len(most_stays(calendar, book).stays), max(numbers))
            self.check(calendar, book)

    def test_against_all_bars(self):
        for calendar, book in TINY:
            stays = list(book.let_stays(calendar.first, calendar.after))
            days = range(calendar.first, calendar.after + 1)
            sets = itertools.chain.from_iterable(itertools.combinations(days, many) for many in range(len(days) + 1))
            bars = [chosen for chosen in sets if sum(calendar.supply(day) for day in chosen) > 0
                    and all(stay.after in chosen for stay in stays if stay.first in chosen)]
            paper = fill_of(calendar, book)
            self.same(paper.days in bars if bars else type(paper) is Fill, True)

    def test_greatest(self):
        begin = time.perf_counter()
        source = shuffled(93, 1, lambda source: source)[0]
        found = []
        for nights in [1, 3, 9, 40]:
            for rows in [
                [Lengths.since(1)], [Lengths.of(1, 7)], [Lengths.since(2)], [Lengths.of(2, 3, 5, 7, 11, 13, 17, 19)],
                [Lengths.since(3)] * 3 + [Lengths.of(1, 2, 5)], [Lengths.of(1)] * 6 + [Lengths.of(3)],
            ]:
                calendar = with_guests(source, Calendar(12, -20, 20), 100, nights)
                found.append(self.check(calendar, Book.by_days(*rows)))
        self.assertTrue(any(found) and not all(found))
        # More than 70 papers of calendars with up to 100 guests: that is far below a second each.
        self.assertLess(time.perf_counter() - begin, 60)

    def test_equal_answers_for_equal_arguments(self):
        for calendar, book in SMALL[:60]:
            self.same(fill_of(calendar, book) == fill_of(calendar.twin(), book), True)
            if is_sellable(calendar, book):
                for work in [fewest_stays, most_stays]:
                    self.same(work(calendar, book) == work(calendar.twin(), book), True)

    def test_arguments_stay_as_they_are(self):
        for calendar, book in SMALL[:60]:
            twin, text = calendar.twin(), str(book)
            fill_of(calendar, book)
            self.same([twin == calendar, twin.names == calendar.names, str(book) == text], [True, True, True])


class KnownTest(Papers, unittest.TestCase):
    def test_stays_over_sold_out_nights_count(self):
        # The stays of three and of four nights lie over night 1, which is sold out: none is used, but both lead on.
        calendar = Calendar(1, 0, 4)
        calendar["ann"] = Stay(1, 2)
        book = Book.by_days(Lengths.of(1, 4), Lengths.none(), Lengths.of(2), Lengths.none())
        self.assertEqual(fill_of(calendar, book), Fill((Stay(0, 1), Stay(2, 4))))
        for rows in [[3, 0, 1, 0], [4, 0, 0, 0], [4, 0, 1, 0], [3, 0, 2, 1]]:
            book = Book.by_days(*[Lengths.of(nights) for nights in rows])
            self.is_bar(calendar, book, fill_of(calendar, book).days)

    def test_sold_out(self):
        calendar = Calendar(1, 0, 3)
        calendar["ann"] = Stay(0, 3)
        for book in [Book.none(), TWOS]:
            self.same([fill_of(calendar, book) == Fill(()), is_sellable(calendar, book)], [True, True])
            self.same([fewest_stays(calendar, book).stays, most_stays(calendar, book).stays], [(), ()])

    def test_no_let_stay(self):
        self.assertEqual(fill_of(Calendar(3, 5, 9), Book.none()), Bar((5,)))
        self.same(is_sellable(Calendar(3, 5, 9), Book.none()), False)

    def test_each_stay_as_often_as_it_is_used(self):
        self.assertEqual(fill_of(Calendar(3, -2, 0), TWOS), Fill((Stay(-2, 0),) * 3))
        self.assertEqual(fewest_stays(Calendar(2, 0, 4), TWOS).stays, (Stay(0, 2),) * 2 + (Stay(2, 4),) * 2)

    def test_numbers_of_stays(self):
        for rooms, nights, few, many in [(1, 7, 3, 3), (2, 6, 4, 6), (12, 40, 12 * 14, 12 * 20), (1, 2, 1, 1)]:
            calendar = Calendar(rooms, 0, nights)
            self.same([len(fewest_stays(calendar, PAIRS_AND_THREES).stays),
                       len(most_stays(calendar, PAIRS_AND_THREES).stays)], [few, many])

    def test_rounds(self):
        week = Book(Comes(Days.on(7, 5)) & Lasts(Lengths.of(2)) | Comes(Days.on(7, 0)) & Lasts(Lengths.of(5)))
        self.assertEqual(fill_of(Calendar(1, 5, 14), week), Fill((Stay(5, 7), Stay(7, 12), Stay(12, 14))))
        self.same([is_sellable(Calendar(1, 0, 7), week), is_sellable(Calendar(1, 1, 7), week)], [True, False])

    def test_last_days(self):
        calendar = Calendar(2, LAST - 4, LAST)
        self.same([len(fewest_stays(calendar, TWOS).stays), len(most_stays(calendar, TWOS).stays)], [4, 4])
        self.same(len(fewest_stays(Calendar(1, -LAST, 6 - LAST), PAIRS_AND_THREES).stays), 2)

    def test_climb_of(self):
        calendar = Calendar(3, 2, 5)
        calendar["ann"] = Stay(3, 5)
        heights = {2: 5, 3: 7, 4: 4, 5: 10 ** 40}
        self.same(climb_of(heights=heights, calendar=calendar), 3 * 2 + 2 * -3 + 2 * (10 ** 40 - 4))
        self.same(climb_of(calendar, {day: 3 for day in range(2, 6)}), 0)
        for source_calendar, book in SMALL[:80]:
            heights = {day: day * day % 7 - 3 for day in range(source_calendar.first, source_calendar.after + 1)}
            paper = fill_of(source_calendar, book)
            if type(paper) is Fill:
                climbed = sum(heights[stay.after] - heights[stay.first] for stay in paper.stays)
                self.same(climb_of(source_calendar, heights), climbed)

    def test_wrong_values(self):
        calendar = Calendar(1, 0, 1)
        for work in WORKS:
            for value in none_of(Calendar):
                self.refused(BadCalendar, {"part": "calendar"}, work, value, value)
                self.refused(BadCalendar, {"part": "calendar"}, work, value, TWOS)
            for value in none_of(Book):
                self.refused(BadBook, {"part": "book"}, work, calendar, value)
        for value in none_of(Calendar):
            self.refused(BadCalendar, {"part": "calendar"}, climb_of, value, {0: 0, 1: 0})


class PaperTest(Checks, unittest.TestCase):
    def test_attributes(self):
        for value in VALUES:
            self.assertIs(Fill(stays=value).stays, value)
            self.assertIs(Bar(days=value).days, value)
            paper = Climb(heights=value, stays=[value])
            self.assertIs(paper.heights, value)
            self.assertEqual(paper.stays, [value])

    def test_bases(self):
        for kind in [Fill, Bar, Climb]:
            self.same(issubclass(kind, Paper), True)
            self.same([issubclass(kind, other) for other in [Fill, Bar, Climb] if other is not kind], [False, False])
            self.defines(kind, ["__init__", "__eq__"])

    def test_equal(self):
        for value in VALUES:
            self.same([Fill(value) == Fill(value), Fill(value) != Fill(value)], [True, False])
            self.same([Bar([value]) == Bar([value]), Climb(value, 1) == Climb(value, 1)], [True, True])
            self.same([Fill(value) == Bar(value), Bar(value) == Fill(value)], [False, False])
            self.same([Climb(value, "a") == Climb(value, "b"), Climb("a", value) == Climb("b", value)], [False, False])
            self.same([Fill((value, "a")) == Fill((value,)), Fill((value,)) == Fill([value])], [False, False])
        self.same(Climb((Stay(0, 1),), {0: 1}) == Climb((Stay(0, 1),), {0: 1}), True)

    def test_other_values(self):
        for paper in [Fill((0, 1)), Bar((0, 1)), Climb((0,), {1: 1})]:
            self.alone(paper, VALUES)


if __name__ == "__main__":
    unittest.main()
