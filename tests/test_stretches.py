"""Points [2], [3] and [5], and the heading nodeadnight/stretches.py."""

import inspect
import itertools
import unittest

from nodeadnight.books import Book
from nodeadnight.days import Days
from nodeadnight.errors import BadBook, BadCount, BadStay, BadStretch, Outside, TooMany
from nodeadnight.lengths import Lengths
from nodeadnight.rules import Comes, Goes, Lasts
from nodeadnight.stays import Stay
from nodeadnight.stretches import Stretch, alive, fewest, fillable, is_live, most, row_of, rows_of, ways
from rows import filled_from, least_form, some_book
from values import FAR, LAST, NO_INTEGERS, Checks, no_days, none_of, shuffled

MANY_LENGTHS = {"what": "lengths", "most": 400}
MANY_SIZE = {"what": "size", "most": 60}

THREES = Book(Lasts(Lengths.of(3, 4)))
BACK = Book(Comes(Days.on(7, 5)) & Lasts(Lengths.of(2)) | Comes(Days.on(7, 0)) & Lasts(Lengths.of(5, 3)))

BOOKS = shuffled(61, 60, some_book) + [THREES, BACK, Book.every(), Book.none(), Book(Goes(Days.on(7, 2)))]

# A book of greater size than fillable takes, for which the other functions work.
LONG = Book(Lasts(Lengths.of(50, 61, 200)))

ROW_WORKS = [row_of, lambda book, day, nights: list(rows_of(book, day, nights)), fewest, most, ways]


def rows_by_hand(book, day, nights):
    """All rows of let stays that fill so many nights, as lists of numbers of nights, in their order."""
    if nights == 0:
        return [[]]
    return [[n, *row] for n in range(1, nights + 1) if book.lets(day % 5040, n)
            for row in rows_by_hand(book, day + n, nights - n)]


def told(row):
    return None if row is None else [str(stay) for stay in row]


class StretchTest(Checks, unittest.TestCase):
    def test_attributes(self):
        for day, nights in itertools.product([-LAST, -1, 0, 5, LAST], [None, 0, 1, 399, 400]):
            stretch = Stretch(nights=nights, day=day)
            self.same([stretch.day, stretch.nights, stretch.is_endless], [day, nights, nights is None])
            self.same(str(stretch), f"{day}+" if nights is None else f"{day}+{nights}")

    def test_equal(self):
        rows = list(itertools.product([-1, 0, 5], [None, 0, 1, 5]))
        for one, other in itertools.product(rows, rows):
            equal = one == other
            self.same([Stretch(*one) == Stretch(*other), Stretch(*one) != Stretch(*other)], [equal, not equal])
        self.alone(Stretch(0, 1), none_of(Stretch) + ["0+1", (0, 1)])
        self.alone(Stretch(0, None), none_of(Stretch) + ["0+"])

    def test_wrong_parts(self):
        for value in no_days():
            self.refused(BadStretch, {"part": "day"}, Stretch, value, None)
            self.refused(BadStretch, {"part": "day"}, Stretch, value, value)
        for value in NO_INTEGERS + [-1, 401, FAR, -FAR]:
            if value is not None:
                self.refused(BadStretch, {"part": "nights"}, Stretch, 0, value)

    def test_has_stay(self):
        for day, nights in itertools.product([-3, 0, 2], [None, 0, 1, 4, 7]):
            stretch = Stretch(day, nights)
            for first, after in itertools.combinations(range(-5, 12), 2):
                inside = day <= first and (nights is None or after <= day + nights)
                self.same(stretch.has_stay(stay=Stay(first, after)), inside)

    def test_has_stay_far_ahead(self):
        for nights in [None, 400]:
            self.same(Stretch(7, nights).has_stay(Stay(406, 407)), True)
        self.same([Stretch(7, None).has_stay(Stay(407, 807)), Stretch(7, 400).has_stay(Stay(407, 408))], [True, False])
        self.same([Stretch(7, None).has_stay(Stay(408, 409)), Stretch(-401, None).has_stay(Stay(0, 1))], [False, False])
        self.same([Stretch(LAST - 1, 400).has_stay(Stay(LAST - 1, LAST)), Stretch(LAST, 3).has_stay(Stay(0, 1))],
                  [True, False])

    def test_minus(self):
        for day, nights in itertools.product([-3, 0], [None, 1, 4, 7]):
            stretch = Stretch(day, nights)
            for first, after in itertools.combinations(range(-5, 12), 2):
                stay = Stay(first, after)
                if stretch.has_stay(stay):
                    ahead, behind = stretch - stay
                    self.assertIs(type(stretch - stay), tuple)
                    left = None if nights is None else day + nights - after
                    self.same([ahead.day, ahead.nights, behind.day, behind.nights], [day, first - day, after, left])
                else:
                    self.refused(Outside, {"stay": stay}, lambda: stretch - stay)

    def test_minus_far_ahead(self):
        ahead, behind = Stretch(7, None) - Stay(407, 807)
        self.same([str(ahead), str(behind)], ["7+400", "807+"])
        self.refused(Outside, {"stay": Stay(408, 409)}, lambda: Stretch(7, None) - Stay(408, 409))
        self.same(str((Stretch(LAST - 1, 400) - Stay(LAST - 1, LAST))[1]), f"{LAST}+399")

    def test_in_place(self):
        stretch = first = Stretch(0, 4)
        stretch -= Stay(1, 2)
        self.same([[str(part) for part in stretch], str(first)], [["0+1", "2+2"], "0+4"])

    def test_own_methods(self):
        self.defines(Stretch, ["__init__", "is_endless", "__eq__", "__str__", "has_stay", "__sub__"])


class FillableTest(Checks, unittest.TestCase):
    def check(self, book, day):
        marks = filled_from(book, day, 4000)
        form = least_form(marks)
        if form is None:
            self.refused(TooMany, MANY_LENGTHS, fillable, book, day)
            return
        lengths = fillable(day=day, book=book)
        self.same((lengths.start, lengths.period), form)
        self.assertEqual([n in lengths for n in range(4001)], marks)
        self.same([0 in lengths, lengths.start + lengths.period <= 400], [True, True])

    def test_by_far_members(self):
        for book in BOOKS:
            for day in range(book.round):
                self.check(book, day)

    def test_days_come_round(self):
        for book in BOOKS[::5]:
            for day in [-book.round * 10 ** 9 + 1, book.round * 10 ** 10 + 1]:
                try:
                    expected = fillable(book, 1)
                except TooMany:
                    self.refused(TooMany, MANY_LENGTHS, fillable, book, day)
                else:
                    self.assertEqual(fillable(book, day), expected)

    def test_known(self):
        rows = [
            (Book.none(), "0"), (Book.every(), "from 0 by 1 at 0"), (Book(Lasts(Lengths.of(7))), "from 0 by 7 at 0"),
            (Book(Lasts(Lengths.since(2))), "0 from 2 by 1 at 0"), (Book(Lasts(Lengths.steps(3, 10))), None),
            (Book(Lasts(Lengths.of(6, 10))), "0 6 10 12 from 15 by 2 at 0"),
        ]
        for book, text in rows:
            if text is not None:
                self.same(str(fillable(book, 0)), text)
        self.same(fillable(Book(Lasts(Lengths.steps(3, 10))), 0).last_gap, 20)

    def test_just_where_there_are_too_many(self):
        # The last gap of two numbers a and b without a common divisor is a * b - a - b.
        self.same(fillable(Book(Lasts(Lengths.of(20, 21))), 0).start, 380)
        self.refused(TooMany, MANY_LENGTHS, fillable, Book(Lasts(Lengths.of(21, 22))), 0)
        self.same(fillable(Book(Lasts(Lengths.of(2, 57))), 0).start, 56)
        self.same(fillable(Book(Lasts(Lengths.of(20, 22))), 0).start, 179)

    def test_start_and_period_just_at_400(self):
        for numbers, start, period in [((16, 35, 54), 398, 1), ((50, 52, 58), 397, 2), ((25, 28, 47), 399, 1)]:
            lengths = fillable(Book(Lasts(Lengths.of(*numbers))), 0)
            self.same((lengths.start, lengths.period), (start, period))
            self.same(least_form(filled_from(Book(Lasts(Lengths.of(*numbers))), 0, 2000)), (start, period))
        for numbers in [(11, 41), (18, 52), (45, 55), (22, 42), (21, 41, 52)]:
            self.refused(TooMany, MANY_LENGTHS, fillable, Book(Lasts(Lengths.of(*numbers))), 0)

    def test_size(self):
        self.same([Book(Lasts(Lengths.of(58))).size, Book(Lasts(Lengths.of(59))).size], [60, 61])
        self.same(str(fillable(Book(Lasts(Lengths.of(58))), 3)), "from 0 by 58 at 0")
        self.refused(TooMany, MANY_SIZE, fillable, Book(Lasts(Lengths.of(59))), 3)
        self.refused(TooMany, MANY_SIZE, fillable, Book.by_days(*[Lengths.of(53)] * 6, Lengths.none()), 3)
        self.same(str(fillable(Book.by_days(*[Lengths.of(52)] * 6, Lengths.none()), 6)), "0")
        # Of a greater book it is the size that is told, also where the Lengths would be too great.
        self.refused(TooMany, MANY_SIZE, fillable, Book(Lasts(Lengths.of(61, 62))), 0)

    def test_many_periods(self):
        # From day 3 three ways go on, each by a step of its own: by 48, 44 and 52.
        book = Book.by_days(Lengths.of(52), Lengths.of(48), Lengths.of(44), Lengths.of(1, 2, 3))
        self.refused(TooMany, MANY_LENGTHS, fillable, book, 3)
        self.same(str(fillable(book, 0)), "from 0 by 52 at 0")
        book = Book.by_days(Lengths.of(12), Lengths.of(16), Lengths.of(4), Lengths.of(1, 2, 3))
        self.same(fillable(book, 3).period, 48)

    def test_wrong_values(self):
        for value in none_of(Book):
            self.refused(BadBook, {"part": "book"}, fillable, value, value)
            self.refused(BadBook, {"part": "book"}, alive, value)
            self.refused(BadBook, {"part": "book"}, is_live, value, value)
        for value in no_days():
            self.refused(BadCount, {"value": value}, fillable, LONG, value)


class LiveTest(Checks, unittest.TestCase):
    def test_finite(self):
        for book in BOOKS:
            for day in [*range(book.round), -5, 10 ** 11]:
                marks = filled_from(book, day, 60)
                for nights in range(61):
                    self.same(is_live(book, Stretch(day, nights)), marks[nights])

    def test_long_ones(self):
        for book in BOOKS[::6] + [LONG]:
            marks = filled_from(book, 0, 400)
            for nights in range(0, 401, 20):
                self.same(is_live(stretch=Stretch(0, nights), book=book), marks[nights])

    def test_beyond_the_last_day(self):
        self.same([is_live(THREES, Stretch(LAST, 7)), is_live(THREES, Stretch(LAST, 5))], [True, False])
        self.same(is_live(THREES, Stretch(LAST, None)), True)

    def test_endless(self):
        for book in BOOKS:
            days = alive(book=book)
            self.assertIs(type(days), Days)
            for day in range(book.round):
                # On a round of at most 7 days, whoever finds 8 stays in a row finds endlessly many.
                ends = {day}
                for _ in range(8):
                    ends = {(end + n) % book.round for end in ends for n in range(1, 500) if book.lets(end, n)}
                self.same(day in days, len(ends) > 0)
                for far in [day, day - 84 * 10 ** 9, day + 420 * 10 ** 8]:
                    self.same(is_live(book, Stretch(far, None)), far in days)

    def test_alive_known(self):
        self.same([str(alive(Book.every())), str(alive(Book.none())), str(alive(LONG))], ["every", "none", "every"])
        self.same(str(alive(Book(Comes(Days.on(7, 5)) & Goes(Days.on(7, 6))))), "none")
        self.same(str(alive(Book(Comes(Days.on(7, 5, 6)) & Goes(Days.on(7, 5))))), "by 7 at 5 6")
        self.same(str(alive(Book.by_days(Lengths.of(1), Lengths.of(1), Lengths.none()))), "none")
        self.same(str(alive(Book.by_days(Lengths.of(2), Lengths.of(1)))), "every")
        # Stays of 385 nights lead from a day 0 to a day 0, stays of 390 nights lead to a day 5.
        self.same(str(alive(Book.by_days(Lengths.steps(385, 7), *[Lengths.none()] * 6))), "by 7 at 0")
        self.same(str(alive(Book.by_days(Lengths.steps(390, 7), *[Lengths.none()] * 6))), "none")

    def test_wrong_stretches(self):
        for value in none_of(Stretch):
            self.refused(BadStretch, {"part": "stretch"}, is_live, LONG, value)


class RowsTest(Checks, unittest.TestCase):
    def test_small(self):
        for book in BOOKS:
            for day, nights in itertools.product([0, 4, -9], range(0, 13)):
                rows = rows_by_hand(book, day, nights)
                stays = []
                for row in rows:
                    firsts = [day + sum(row[:at]) for at in range(len(row))]
                    stays.append(tuple(Stay(first, first + n) for first, n in zip(firsts, row)))
                self.same(list(rows_of(book, day, nights)), stays)
                self.same(row_of(book, day, nights), stays[0] if stays else None)
                self.same(fewest(book, day, nights), min((len(row) for row in rows), default=None))
                self.same(most(book, day, nights), max((len(row) for row in rows), default=None))
                self.same(ways(book, day, nights), len(rows))

    def test_by_names(self):
        self.same(told(row_of(nights=7, day=10, book=THREES)), ["10+3", "13+4"])
        self.same([told(row) for row in rows_of(nights=7, day=10, book=THREES)], [["10+3", "13+4"], ["10+4", "14+3"]])
        self.same([fewest(nights=12, day=0, book=THREES), most(nights=12, day=0, book=THREES),
                   ways(nights=11, day=0, book=THREES)], [3, 4, 3])

    def test_long_rows(self):
        self.same([fewest(Book.every(), 0, 400), most(Book.every(), 0, 400), ways(Book.every(), 0, 400)],
                  [1, 400, 2 ** 399])
        self.same([len(row_of(Book.every(), 0, 400)), row_of(Book.every(), 5, 400)[0] == Stay(5, 6)], [400, True])
        self.same([len(row_of(THREES, 3, 400)), fewest(THREES, 3, 400), most(THREES, 3, 400)], [133, 100, 133])
        self.same([told(row_of(LONG, 0, 400))[:2], fewest(LONG, 0, 400), most(LONG, 0, 400)], [["0+50", "50+50"], 2, 8])
        self.same([row_of(LONG, 0, 399), fewest(LONG, 0, 399), most(LONG, 0, 399), ways(LONG, 0, 399)],
                  [None, None, None, 0])

    def test_rounds(self):
        self.same(told(row_of(BACK, 5, 9)), ["5+2", "7+5", "12+2"])
        self.same([told(row) for row in rows_of(BACK, 5, 14)], [["5+2", "7+5", "12+2", "14+5"]])
        self.same([ways(BACK, 5, 12), ways(BACK, 6, 1), ways(BACK, 6, 0)], [1, 0, 1])

    def test_no_nights(self):
        for book in [THREES, Book.none(), LONG]:
            self.same([row_of(book, LAST, 0), list(rows_of(book, LAST, 0)), fewest(book, 0, 0), most(book, 0, 0),
                       ways(book, 0, 0)], [(), [()], 0, 0, 1])

    def test_walks(self):
        self.assertTrue(inspect.isgenerator(rows_of(THREES, 0, 11)))
        one, other = rows_of(THREES, 0, 11), rows_of(THREES, 0, 11)
        mixed = [[len(stay) for stay in next(walk)] for walk in [one, other, one, one, other]]
        self.same(mixed, [[3, 4, 4], [3, 4, 4], [4, 3, 4], [4, 4, 3], [4, 3, 4]])
        self.same([len(list(one)), len(list(other))], [0, 1])

    def test_walks_of_many_rows(self):
        walk = rows_of(Book.every(), 0, 400)
        rows = [[len(stay) for stay in next(walk)] for _ in range(4)]
        self.same([row[-3:] for row in rows], [[1, 1, 1], [1, 1, 2], [1, 2, 1], [1, 1, 3]])
        self.same([len(row) for row in rows], [400, 399, 399, 398])

    def test_order_is_that_of_lists(self):
        rows = [[len(stay) for stay in row] for row in rows_of(Book.every(), 0, 9)]
        self.same([rows == sorted(rows), len(rows)], [True, 256])


class RowErrorsTest(Checks, unittest.TestCase):
    def test_wrong_values(self):
        for work in ROW_WORKS:
            for value in none_of(Book):
                self.refused(BadBook, {"part": "book"}, work, value, value, value)
            for value in no_days():
                self.refused(BadCount, {"value": value}, work, LONG, value, -1)
            for value in NO_INTEGERS + [-1, 401, FAR, -FAR]:
                self.refused(BadCount, {"value": value}, work, LONG, LAST, value)

    def test_generators_raise_at_the_first_item(self):
        for arguments, error in [((None, 0, 0), BadBook), ((THREES, None, 0), BadCount), ((THREES, LAST, 3), BadStay)]:
            try:
                next(rows_of(*arguments))
            except error:
                continue
            self.fail(f"no {error}")

    def test_last_day(self):
        for work in ROW_WORKS[:2]:
            self.refused(BadStay, {"part": "after"}, work, THREES, LAST - 2, 3)
            self.refused(BadStay, {"part": "after"}, work, Book.every(), LAST, 1)
            self.refused(BadStay, {"part": "after"}, work, Book.every(), LAST, 400)
        self.same([told(row_of(THREES, LAST - 3, 3)), row_of(THREES, LAST, 5), list(rows_of(THREES, LAST, 2))],
                  [[f"{LAST - 3}+3"], None, []])
        self.same([fewest(THREES, LAST, 7), most(THREES, LAST, 7), ways(THREES, LAST, 7)], [2, 2, 2])
        self.same(told(row_of(THREES, -LAST, 3)), [f"{-LAST}+3"])

    def test_no_more_too_many(self):
        for book in [LONG, Book(Lasts(Lengths.of(57, 58))), Book.by_days(Lengths.steps(5, 399), Lengths.steps(9, 400))]:
            alive(book)
            is_live(book, Stretch(1, 400))
            is_live(book, Stretch(1, None))
            for work in ROW_WORKS:
                work(book, 1, 60)


if __name__ == "__main__":
    unittest.main()
