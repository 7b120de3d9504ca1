"""Points [2], [3] and [4], and the heading nodeadnight/books.py."""

import inspect
import itertools
import math
import unittest

from nodeadnight.books import Book
from nodeadnight.days import Days
from nodeadnight.errors import BadBook, BadCount, BadStay, TooMany
from nodeadnight.lengths import Lengths
from nodeadnight.rules import Both, Comes, Either, Goes, Holds, Lasts, Not, Rule, Within
from nodeadnight.stays import Stay
from values import FAR, INTEGERS, LAST, NO_INTEGERS, Checks, no_days, none_of, shuffled

MANY_LENGTHS = {"what": "lengths", "most": 400}
MANY_ROUND = {"what": "round", "most": 7}


def some_lengths(source):
    start, period = source.randrange(8), source.randrange(1, 7)
    low = [n for n in range(start) if source.random() < 0.4]
    return Lengths(start, low, period, [n for n in range(period) if source.random() < 0.3])


def some_rows(source):
    return [some_lengths(source) for _ in range(source.randrange(1, 8))]


def some_rule(source, turn=None, deep=3):
    """A rule whose Days come round by a common period."""
    turn = turn or source.choice([1, 2, 3, 4, 6, 7])
    word = source.choice(["not", "both", "either", "leaf"]) if deep else "leaf"
    if word == "not":
        return Not(some_rule(source, turn, deep - 1))
    if word == "both":
        return Both(some_rule(source, turn, deep - 1), some_rule(source, turn, deep - 1))
    if word == "either":
        return Either(some_rule(source, turn, deep - 1), some_rule(source, turn, deep - 1))
    kind = source.choice([Comes, Goes, Holds, Within, Lasts])
    if kind is Lasts:
        return Lasts(some_lengths(source))
    period = source.choice([k for k in range(1, turn + 1) if turn % k == 0])
    return kind(Days(period, [n for n in range(period) if source.random() < 0.5]))


def told(rows, day, nights):
    """Whether rows of Lengths let a stay: 0 plays no part."""
    return nights > 0 and nights in rows[day % len(rows)]


RULES = shuffled(51, 80, some_rule)
ROWS = shuffled(52, 60, some_rows)
BOOKS = [Book(rule) for rule in RULES[:25]] + [Book.by_days(*rows) for rows in ROWS[:25]] + [Book.every(), Book.none()]


def marks(book, days=84, nights=40):
    return [book.lets(day, n) for day in range(days) for n in range(1, nights)]


# Of these, enough to take all pairs; two of them come round together by 42 days at the most.
MARKED = [(book, marks(book, 42, 80)) for book in BOOKS[::3] + [Book.every(), Book.none()]]


class RuleTest(Checks, unittest.TestCase):
    def test_stays_of_a_rule(self):
        for rule in RULES:
            book = Book(rule=rule)
            for first in [*range(-8, 8), LAST - 400, -LAST]:
                for nights in [*range(1, 30), 399, 400]:
                    stay = Stay(first, first + nights)
                    self.same([book(stay), stay in book, book.lets(first, nights)], [rule(stay)] * 3)

    def test_far_numbers(self):
        # All periods of the rules' sets divide 420 with a round from 1 to 7, all starts are below 10.
        for rule in RULES:
            book = Book(rule)
            for day, nights in itertools.product(range(7), range(20, 90)):
                self.same(book.lets(day, 420 * 10 ** 30 + nights), book.lets(day, nights))
                self.same(book.lets(420 * 10 ** 9 + day, nights), book.lets(day, nights))

    def test_two_rules_of_the_same_stays_make_equal_books(self):
        even = Days.on(2, 0)
        pairs = [
            (Comes(even) & Goes(even), Comes(even) & Lasts(Lengths.steps(0, 2))),
            (Within(even), Comes(even) & Lasts(Lengths.of(1))), (~Holds(even), Within(~even)),
            (Holds(Days.on(7, 3)), ~Within(~Days.on(7, 3))), (Lasts(Lengths.since(0)), Comes(Days.every())),
            (Lasts(Lengths.of(0)), Comes(Days.none())), (Holds(Days.on(1, 0)), Goes(Days.every())),
            (Lasts(Lengths.of(0, 3)), Lasts(Lengths.of(3))),
        ]
        for one, other in pairs:
            self.same([Book(one) == Book(other), str(Book(one)) == str(Book(other))], [True, True])

    def test_wrong_rules(self):
        for value in none_of(Rule):
            self.refused(BadBook, {"part": "rule"}, Book, value)

    def test_round_of_a_rule(self):
        for one, other in itertools.product(range(1, 8), range(1, 8)):
            rule = Comes(Days.on(one, 0)) | Goes(Days.on(other, 0))
            if math.lcm(one, other) > 7:
                self.refused(TooMany, MANY_ROUND, Book, rule)
                self.refused(TooMany, MANY_ROUND, Book, rule & Lasts(Lengths.of(398)))
            else:
                Book(rule)

    def test_round_is_asked_though_it_plays_no_part(self):
        rule = Comes(Days.on(7, 0)) & Goes(Days.on(2, 0)) & Comes(Days.none())
        self.refused(TooMany, MANY_ROUND, Book, rule)
        self.same(Book(Comes(Days(6, [0, 2, 4])) & Goes(Days.on(4, 0))).round, 4)

    def test_lengths_of_a_rule(self):
        # T is the greatest of P and the starts, Q the least common multiple of P and the periods.
        two, three, week = [Comes(Days.on(period, 0)) for period in [2, 3, 7]]
        fit = [
            Lasts(Lengths.since(399)), Lasts(Lengths.of(398)), Lasts(Lengths.steps(0, 399)),
            Lasts(Lengths.since(398)) & two, Lasts(Lengths.since(393)) & week, Lasts(Lengths.steps(0, 56)) & week,
            Lasts(Lengths.steps(0, 55)) & week, Lasts(Lengths.steps(0, 19)) & Lasts(Lengths.steps(0, 20)),
            Lasts(Lengths.steps(0, 19)) & Lasts(Lengths.steps(0, 21)), Lasts(Lengths.steps(0, 393)) & three,
            Lasts(Lengths.steps(0, 19)) | Lasts(~Lengths.of(0)),
            Lasts(Lengths.since(200)) & Lasts(Lengths.steps(0, 200)),
        ]
        great = [
            Lasts(Lengths.steps(0, 400)), Lasts(Lengths.since(399)) & two, Lasts(Lengths.since(394)) & week,
            Lasts(Lengths.steps(0, 57)) & week, Lasts(Lengths.steps(0, 20)) & Lasts(Lengths.steps(0, 21)),
            Lasts(Lengths.steps(0, 398)) & three, Lasts(Lengths.since(201)) & Lasts(Lengths.steps(0, 200)),
        ]
        for rule in fit:
            Book(rule)
        for rule in great:
            self.refused(TooMany, MANY_LENGTHS, Book, rule)

    def test_lengths_are_asked_though_they_play_no_part(self):
        self.refused(TooMany, MANY_LENGTHS, Book, Lasts(Lengths.steps(0, 400)) & Lasts(Lengths.none()))

    def test_constant(self):
        self.same([Book.ROUND, Book.every().ROUND], [7, 7])

    def test_own_methods(self):
        self.defines(Book, [
            "__init__", "by_days", "round", "lengths_on", "lets", "size", "__str__", "__call__", "__contains__",
            "let_stays", "__and__", "__or__", "__sub__", "__invert__", "__le__", "__lt__", "__ge__", "__gt__",
            "__eq__", "__bool__", "every", "none",
        ])


class ByDaysTest(Checks, unittest.TestCase):
    def test_stays(self):
        for rows in ROWS:
            book = Book.by_days(*rows)
            for day, nights in itertools.product(range(-9, 20), range(1, 40)):
                self.same(book.lets(day, nights), told(rows, day, nights))

    def test_without_zero(self):
        self.same(str(Book.by_days(Lengths.of(0, 2))), "day 2")
        self.same(str(Book.by_days(Lengths.of(0))), "day none")
        self.same(str(Book.by_days(Lengths.every())), "day from 1 by 1 at 0")
        self.same(str(Book.by_days(Lengths.steps(0, 3))), "day from 1 by 3 at 0")
        self.same(str(Book.by_days(Lengths.of(0, 2), Lengths.of(2))), "day 2")

    def test_too_many_without_zero(self):
        self.refused(TooMany, MANY_LENGTHS, Book.by_days, Lengths.steps(0, 400))
        self.refused(TooMany, MANY_LENGTHS, Book.by_days, Lengths.of(2), Lengths.steps(0, 400))
        self.same(str(Book.by_days(Lengths.steps(5, 400))), "day from 0 by 400 at 5")
        self.same(str(Book.by_days(Lengths.steps(0, 399))), "day from 1 by 399 at 0")
        # The Lengths of several days may have no common form of their own.
        book = Book.by_days(Lengths.steps(5, 400), Lengths.steps(5, 399), Lengths.of(398))
        self.same([book.round, str(book.lengths_on(1)), book.size], [3, "from 0 by 399 at 5", 399 + 3 * 400 * 133])

    def test_wrong_lengths(self):
        self.refused(BadBook, {"part": "lengths"}, Book.by_days)
        self.refused(BadBook, {"part": "lengths"}, Book.by_days, *[Lengths.of(1)] * 8)
        self.refused(BadBook, {"part": "lengths"}, Book.by_days, *[Lengths.steps(0, 400)] * 8)
        for value in none_of(Lengths):
            self.refused(BadBook, {"part": "lengths"}, Book.by_days, value)
            self.refused(BadBook, {"part": "lengths"}, Book.by_days, Lengths.steps(0, 400), value)

    def test_every_and_none(self):
        self.same([str(Book.every()), str(Book.none())], ["day from 1 by 1 at 0", "day none"])
        self.same([Book.none().every() == Book.every(), Book.every().none() == Book.none()], [True, True])


class RoundTest(Checks, unittest.TestCase):
    def test_least(self):
        for book, lets in [(book, [marks(book, 84)[day * 39:day * 39 + 39] for day in range(84)]) for book in BOOKS]:
            least = next(k for k in range(1, 8) if all(lets[day] == lets[day + k] for day in range(70)))
            self.same(book.round, least)

    def test_rounds(self):
        one, other = Lengths.of(2), Lengths.of(3)
        for rows, turn in [
            ([one] * 7, 1), ([one, other] * 3, 2), ([one, other, other] * 2, 3), ([one] * 6 + [other], 7),
            ([one, one, other, other], 4), ([one, other, one, other], 2), ([one, other, one], 3),
            ([one, one, other, one, one, one], 6),
        ]:
            self.same(Book.by_days(*rows).round, turn)

    def test_lengths_on(self):
        for rows in ROWS:
            book = Book.by_days(*rows)
            for day in [*range(-15, 15), LAST, -LAST]:
                lengths = book.lengths_on(day=day)
                self.same(0 in lengths, False)
                self.assertEqual(lengths, rows[day % len(rows)] - Lengths.of(0))

    def test_wrong_days(self):
        for value in no_days():
            self.refused(BadCount, {"value": value}, Book.every().lengths_on, value)
            self.refused(BadCount, {"value": value}, Book.every().lets, value, 0)

    def test_wrong_nights(self):
        for value in NO_INTEGERS + [0, -1, -FAR]:
            self.refused(BadCount, {"value": value}, Book.none().lets, LAST, value)
        self.same([Book.every().lets(nights=FAR, day=LAST), Book.none().lets(-LAST, 1)], [True, False])

    def test_size(self):
        for book in BOOKS:
            rows = [book.lengths_on(day) for day in range(book.round)]
            turn = math.lcm(book.round, *[row.period for row in rows])
            self.same(book.size, max(row.start for row in rows) + turn)
        self.same([Book.every().size, Book.none().size, Book(Lasts(Lengths.of(3, 4))).size], [2, 1, 6])

    def test_str(self):
        for book in BOOKS:
            self.same(str(book), " ".join(f"day {book.lengths_on(day)}" for day in range(book.round)))

    def test_properties_cannot_be_set(self):
        for name in ["round", "size"]:
            with self.assertRaises(AttributeError):
                setattr(Book.every(), name, 3)


class StaysTest(Checks, unittest.TestCase):
    def test_wrong_stays(self):
        for value in none_of(Stay):
            self.refused(BadStay, {"part": "stay"}, Book.every(), value)
            self.same(value in Book.every(), False)

    def test_let_stays(self):
        for book in BOOKS:
            for first, after in [(0, 1), (-5, 9), (3, 17), (LAST - 8, LAST), (-LAST, 9 - LAST)]:
                expected = [f"{day}+{n}" for day in range(first, after) for n in range(1, after - day + 1)
                            if book.lets(day, n)]
                self.same([str(stay) for stay in book.let_stays(after=after, first=first)], expected)

    def test_empty_and_turned_about(self):
        for first, after in [(0, 0), (5, 5), (1, 0), (LAST, -LAST), (9, -9)]:
            self.same(list(Book.every().let_stays(first, after)), [])

    def test_none_of_more_than_400_nights(self):
        many = [0] * 402
        for stay in Book.every().let_stays(0, 405):
            many[len(stay)] += 1
        self.same(many, [0] + [406 - n for n in range(1, 401)] + [0])
        only = [str(stay) for stay in Book.by_days(Lengths.steps(3, 397)).let_stays(0, 410)]
        self.same(only, [text for day in range(410) for text in [f"{day}+3", f"{day}+400"]
                         if day + int(text.split("+")[1]) <= 410])

    def test_walks(self):
        book = Book.every()
        self.assertTrue(inspect.isgenerator(book.let_stays(0, 3)))
        one, other = book.let_stays(0, 3), book.let_stays(0, 3)
        mixed = [str(next(walk)) for walk in [one, one, other, one, other, other]]
        self.same(mixed, ["0+1", "0+2", "0+1", "0+3", "0+2", "0+3"])
        self.same([str(stay) for stay in one], ["1+1", "1+2", "2+1"])

    def test_far_walks_need_no_time_ahead(self):
        walk = Book(Comes(Days.on(7, 3))).let_stays(-LAST, LAST)
        self.same([str(next(walk)) for _ in range(2)], [f"{-LAST + (3 + LAST) % 7}+1", f"{-LAST + (3 + LAST) % 7}+2"])
        self.same(list(Book.none().let_stays(-LAST, LAST)), [])


class OperatorsTest(Checks, unittest.TestCase):
    def test_sets(self):
        for (one, ones), (other, others) in itertools.product(MARKED, MARKED):
            if math.lcm(one.round, other.round) > 7:
                for work in [lambda: one & other, lambda: one | other, lambda: one - other]:
                    self.refused(TooMany, MANY_ROUND, work)
                continue
            pairs = list(zip(ones, others))
            self.assertEqual(marks(one & other, 42, 80), [a and b for a, b in pairs])
            self.assertEqual(marks(one | other, 42, 80), [a or b for a, b in pairs])
            self.assertEqual(marks(one - other, 42, 80), [a and not b for a, b in pairs])

    def test_invert(self):
        for book, lets in MARKED:
            self.assertEqual(marks(~book, 42, 80), [not mark for mark in lets])
            self.same([~~book == book, (~book).round == book.round], [True, True])

    def test_results_have_the_least_round(self):
        one, other = Book(Comes(Days.on(6, 0, 3))), Book(Comes(Days.on(6, 1, 4)))
        self.same([one.round, (one | other).round, (one & other).round, (one - one).round], [3, 3, 1, 1])
        self.same((Book(Comes(Days.on(2, 0))) | Book(Comes(Days.on(2, 1)))) == Book.every(), True)

    def test_in_place(self):
        first = book = Book(Lasts(Lengths.of(2, 3)))
        book |= Book(Lasts(Lengths.of(5)))
        book -= Book(Lasts(Lengths.of(2)))
        book &= Book(Comes(Days.on(2, 0)))
        self.same([str(book), str(first)], ["day 3 5 day none", "day 2 3"])

    def test_too_many_lengths(self):
        for one, other, fits in [
            (Lengths.steps(5, 16), Lengths.steps(5, 25), True), (Lengths.steps(5, 20), Lengths.steps(5, 21), False),
            (Lengths.of(398), Lengths.steps(1, 2), False), (Lengths.of(398), Lengths.since(399), True),
            (Lengths.of(19), Lengths.steps(5, 380), True), (Lengths.of(20), Lengths.steps(5, 380), False),
        ]:
            rows = [Lengths.of(1), one], [Lengths.of(2), other]
            for work in [lambda a, b: a & b, lambda a, b: a | b, lambda a, b: a - b]:
                for a, b in [rows, rows[::-1]]:
                    if fits:
                        work(Book.by_days(*a), Book.by_days(*b))
                    else:
                        self.refused(TooMany, MANY_LENGTHS, work, Book.by_days(*a), Book.by_days(*b))

    def test_round_ahead_of_lengths(self):
        one = Book.by_days(Lengths.steps(5, 399), Lengths.of(1))
        other = Book.by_days(*[Lengths.steps(5, 400)] * 6, Lengths.of(1))
        self.refused(TooMany, MANY_ROUND, lambda: one & other)

    def test_invert_too_many(self):
        self.refused(TooMany, MANY_LENGTHS, lambda: ~Book.by_days(Lengths.steps(5, 400)))
        self.refused(TooMany, MANY_LENGTHS, lambda: ~Book.by_days(Lengths.of(1), Lengths.steps(399, 400)))
        self.same((~Book.by_days(Lengths.of(398))).lets(0, 398), False)

    def test_order(self):
        for (one, ones), (other, others) in itertools.product(MARKED, MARKED):
            pairs = list(zip(ones, others))
            within, around = all(b or not a for a, b in pairs), all(a or not b for a, b in pairs)
            self.same([one <= other, one >= other], [within, around])
            self.same([one < other, one > other], [within and not around, around and not within])
            self.same([one == other, one != other], [within and around, not (within and around)])

    def test_order_is_never_refused(self):
        one = Book.by_days(*[Lengths.steps(5, 399)] * 6, Lengths.steps(5, 398))
        other = Book.by_days(*[Lengths.steps(5, 400)] * 5, Lengths.steps(5, 397))
        self.same([one <= other, one < other, one >= other, one > other, one == other], [False] * 5)
        self.same([one <= Book.every(), Book.every() > one, Book.none() < one, one <= Book.none()],
                  [True, True, True, False])
        self.same([Book(Comes(Days.on(7, 0))) <= Book(~Comes(Days.none())), Book(Comes(Days.on(7, 0))) <=
                   Book(Comes(Days.on(2, 0)))], [True, False])

    def test_equal(self):
        for one, other in itertools.product(BOOKS, BOOKS):
            self.same(one == other, str(one) == str(other))
        self.alone(Book.none(), none_of(Book) + ["day none"])
        self.alone(Book.every(), none_of(Book))

    def test_bool(self):
        for book, lets in MARKED:
            self.same(bool(book), any(lets))
        self.same([bool(Book.by_days(Lengths.steps(399, 400))), bool(Book.by_days(Lengths.of(0)))], [True, False])


if __name__ == "__main__":
    unittest.main()
