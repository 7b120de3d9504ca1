"""Points [2] and [6], and the heading nodeadnight/primes.py."""

import itertools
import math
import unittest

from nodeadnight.books import Book
from nodeadnight.days import Days
from nodeadnight.errors import BadBook, TooMany
from nodeadnight.lengths import Lengths
from nodeadnight.primes import alike, missing, primes
from nodeadnight.rules import Comes, Goes, Lasts
from nodeadnight.stays import Stay
from nodeadnight.stretches import fewest, fillable, most
from rows import filled_from, some_book
from values import Checks, none_of, shuffled

MANY_LENGTHS = {"what": "lengths", "most": 400}
MANY_SIZE = {"what": "size", "most": 60}
MANY_ROUND = {"what": "round", "most": 7}

THREES = Book(Lasts(Lengths.of(3, 4)))
LATE = Book(Lasts(Lengths.of(21, 22)))
GREAT = Book(Lasts(Lengths.of(59)))
WEEKS = Book.by_days(Lengths.of(49), Lengths.of(42), Lengths.of(35), Lengths.of(28), *[Lengths.of(1, 2, 3, 4)] * 3)


def refused(book):
    """Whether some day of a book has Lengths that fillable refuses."""
    for day in range(book.round):
        try:
            fillable(book, day)
        except TooMany:
            return True
    return False


BOOKS = [book for book in shuffled(81, 70, some_book) if not refused(book)]
SMALL = [book for book in shuffled(82, 60, lambda source: some_book(source, 16)) if not refused(book)]


def least_missing(one, other, most_nights=1500):
    """The least stay that the other book lets and no row of one fills, by trying all of them."""
    turn = math.lcm(one.round, other.round)
    filled = [filled_from(one, day, most_nights) for day in range(turn)]
    for nights, day in itertools.product(range(1, most_nights), range(turn)):
        if other.lets(day, nights) and not filled[day][nights]:
            return (day, nights)
    return None


class PrimesTest(Checks, unittest.TestCase):
    def test_by_the_rows(self):
        for book in BOOKS:
            least = primes(book=book)
            for day in range(book.round):
                for nights in range(1, 60):
                    # A let stay is a row of one: it is prime if there is no row of more.
                    prime = book.lets(day, nights) and most(book, day, nights) == 1
                    self.same(least.lets(day, nights), prime)

    def test_far_ones(self):
        for book in BOOKS:
            least = primes(book)
            filled = [filled_from(book, day, 900) for day in range(book.round)]
            for day in range(book.round):
                for nights in range(300, 900):
                    parted = any(book.lets(day, k) and filled[(day + k) % book.round][nights - k]
                                 for k in range(1, nights)) if book.lets(day, nights) else True
                    self.same(least.lets(day, nights), not parted)

    def test_the_same_is_filled(self):
        for book in BOOKS:
            least = primes(book)
            self.same([least <= book, primes(least) == least], [True, True])
            for day in range(book.round):
                self.assertEqual(filled_from(least, day, 300), filled_from(book, day, 300))

    def test_each_prime_is_needed(self):
        for book in SMALL:
            least = primes(book)
            for stay in [stay for stay in least.let_stays(0, least.round + 12) if stay.first < least.round]:
                rows = [least.lengths_on(day) for day in range(least.round)]
                rows[stay.first] = rows[stay.first] - Lengths.of(len(stay))
                self.same(fewest(Book.by_days(*rows), stay.first, len(stay)), None)

    def test_known(self):
        rows = [
            (Book.every(), "day 1"), (Book.none(), "day none"), (Book(Lasts(Lengths.since(4))), "day 4 5 6 7"),
            (Book(Lasts(Lengths.steps(3, 2))), "day 3 5 7"), (THREES, "day 3 4"),
            (Book(Lasts(Lengths.of(2, 3, 4, 5, 9))), "day 2 3"),
            # On a day 1 of 7 nobody comes, so stays that would be parted only there are needed.
            (Book(Comes(~Days.on(7, 1))), "day 1 2 day none day 1 day 1 day 1 day 1 day 1"),
        ]
        for book, text in rows:
            self.same(str(primes(book)), text)

    def test_without_an_end(self):
        # From day 0 all numbers of nights lead on, and only from day 0 somebody comes: none is a row of two.
        book = Book.by_days(Lengths.steps(1, 2), Lengths.none())
        self.assertEqual(primes(book), book)
        book = Book.by_days(Lengths.since(1), Lengths.none())
        self.same(str(primes(book)), "day 1 2 day none")

    def test_size(self):
        self.same(str(primes(Book(Lasts(Lengths.of(58))))), "day 58")
        self.refused(TooMany, MANY_SIZE, primes, GREAT)
        self.refused(TooMany, MANY_SIZE, primes, Book(Lasts(Lengths.of(61, 62))))

    def test_too_many_lengths(self):
        self.same(str(primes(Book(Lasts(Lengths.of(20, 21))))), "day 20 21")
        self.refused(TooMany, MANY_LENGTHS, primes, LATE)
        # Only one day of the round has too great a Lengths.
        book = Book.by_days(Lengths.of(52), Lengths.of(48), Lengths.of(44), Lengths.of(1, 2, 3))
        self.refused(TooMany, MANY_LENGTHS, primes, book)

    def test_wrong_books(self):
        for value in none_of(Book):
            self.refused(BadBook, {"part": "book"}, primes, value)


class MissingTest(Checks, unittest.TestCase):
    def test_by_trying(self):
        for one, other in itertools.product(SMALL[:24], SMALL[:24]):
            if math.lcm(one.round, other.round) > 7:
                self.refused(TooMany, MANY_ROUND, missing, one, other)
            else:
                self.same(missing(one=one, other=other), least_missing(one, other, 400))

    def test_against_parts(self):
        for book in BOOKS:
            least = primes(book)
            self.same([missing(book, least), missing(least, book), missing(book, Book.none())], [None, None, None])
            for stay in [stay for stay in least.let_stays(0, least.round + 9) if stay.first < least.round][:4]:
                rows = [least.lengths_on(day) for day in range(least.round)]
                rows[stay.first] = rows[stay.first] - Lengths.of(len(stay))
                part = Book.by_days(*rows)
                if not refused(part):
                    self.same(missing(part, book), least_missing(part, book, 700))

    def test_far_ones(self):
        evens = Book(Lasts(Lengths.steps(2, 2)))
        self.same(missing(evens, Book(Lasts(Lengths.steps(0, 2) | Lengths.of(57)))), (0, 57))
        # 20 and 21 fill all but some numbers up to 379: of those that are let, 1 modulo 27, the least is 1, then 28.
        pairs = Book(Lasts(Lengths.of(20, 21)))
        for start in range(1, 33):
            lets = Lengths(start, [], 27, [1])
            self.same(missing(pairs, Book(Lasts(lets))), least_missing(pairs, Book(Lasts(lets)), 500))
        pairs = Book(Lasts(Lengths.of(8, 9)))
        self.same([missing(pairs, Book(Lasts(Lengths.steps(47, 8)))), fillable(pairs, 0).last_gap], [(0, 47), 55])
        self.same(missing(Book(Lasts(Lengths.of(29))), Book(Lasts(Lengths.steps(29, 29)))), None)

    def test_where_no_common_lengths_can_be_made(self):
        one = Book(Lasts(Lengths(0, [], 30, list(range(1, 30)))))
        self.same(missing(one, Book(Lasts(Lengths.steps(29, 29)))), None)
        # Nights by fours from 1 on, whose periods with the 48 of what is filled from day 3 are above 400.
        one = Book.by_days(Lengths.of(12), Lengths.of(16), Lengths.of(4), Lengths.of(1, 2, 3))
        for period, rests in [(7, [3, 5]), (11, [4, 9]), (13, [1])]:
            lets = Lengths(4, [], 4 * period, [4 * rest + 1 for rest in rests])
            other = Book.by_days(Lengths.none(), Lengths.none(), Lengths.none(), lets)
            self.same(missing(one, other), least_missing(one, other))
        one = Book.by_days(Lengths.of(9, 18), Lengths.of(9, 18), Lengths.of(15))
        other = Book(Lasts(Lengths.steps(0, 56)))
        self.same(missing(one, other), least_missing(one, other))

    def test_however_many_nights(self):
        # Stays from a day 0 end on a day 1, on which nobody comes: so just they are rows.
        odd = Lengths(0, [], 58, [n for n in range(1, 58, 2) if n != 5])
        one, other = Book.by_days(odd, Lengths.none()), Book.by_days(Lengths.steps(1, 56), Lengths.none())
        self.same([missing(one, other), least_missing(one, other, 1600)], [(0, 27 * 56 + 1)] * 2)

    def test_least_day(self):
        one = Book.by_days(Lengths.of(2), Lengths.of(2), Lengths.of(2), Lengths.of(3))
        self.same(missing(one, Book(Lasts(Lengths.of(2, 3)))), (3, 2))
        self.same(missing(one, Book(Lasts(Lengths.of(3)))), (0, 3))
        self.same(missing(Book.none(), Book(Comes(Days.on(7, 5)) | Comes(Days.on(7, 2)))), (2, 1))
        self.same(missing(Book(Goes(Days.on(7, 5))), Book(Lasts(Lengths.of(1)))), (0, 1))

    def test_errors_in_their_order(self):
        week = Book(Comes(Days.on(7, 0)))
        two = Book(Comes(Days.on(2, 0)))
        for value in none_of(Book):
            self.refused(BadBook, {"part": "one"}, missing, value, value)
            self.refused(BadBook, {"part": "one"}, missing, value, GREAT)
            self.refused(BadBook, {"part": "other"}, missing, GREAT, value)
            self.refused(BadBook, {"part": "one"}, alike, value, value)
            self.refused(BadBook, {"part": "other"}, alike, GREAT, value)
        for work in [missing, alike]:
            self.refused(TooMany, MANY_SIZE, work, GREAT, two)
            self.refused(TooMany, MANY_SIZE, work, LATE, GREAT)
            self.refused(TooMany, MANY_LENGTHS, work, LATE, two)
            self.refused(TooMany, MANY_LENGTHS, work, WEEKS, two)
            self.refused(TooMany, MANY_ROUND, work, week, two)
            self.refused(TooMany, MANY_ROUND, work, two, week)

    def test_only_one_is_asked_for_its_lengths(self):
        self.same(missing(Book(Lasts(Lengths.of(2))), LATE), (0, 21))
        self.same(missing(Book.every(), LATE), None)
        self.refused(TooMany, MANY_LENGTHS, alike, Book(Lasts(Lengths.of(2))), LATE)
        self.refused(TooMany, MANY_LENGTHS, alike, LATE, Book(Lasts(Lengths.of(2))))

    def test_alike(self):
        for book in BOOKS[:20]:
            self.same([alike(one=book, other=primes(book)), alike(primes(book), book), alike(book, book)], [True] * 3)
        for one, other in itertools.product(SMALL[:16], SMALL[:16]):
            if math.lcm(one.round, other.round) <= 7:
                both = least_missing(one, other, 300) is None and least_missing(other, one, 300) is None
                self.same(alike(one, other), both)
        self.same(alike(Book(Lasts(Lengths.of(2, 3))), Book(Lasts(Lengths.since(2)))), True)

    def test_what_is_missing_is_let(self):
        day, nights = missing(THREES, Book(Lasts(Lengths.since(3))))
        self.same([Stay(day, day + nights) in Book(Lasts(Lengths.since(3))), fewest(THREES, day, nights)], [True, None])


if __name__ == "__main__":
    unittest.main()
