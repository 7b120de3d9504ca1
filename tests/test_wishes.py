"""Points [2], [9] and [12], and the heading nodeadnight/wishes.py."""

import itertools
import time
import unittest

from nodeadnight.books import Book
from nodeadnight.calendars import Calendar
from nodeadnight.errors import BadBook, BadCalendar, BadWish, Dead, TooMany
from nodeadnight.fills import Paper, is_sellable
from nodeadnight.lengths import Lengths
from nodeadnight.rules import Lasts
from nodeadnight.stays import Stay
from nodeadnight.wishes import Lot, best_lot, can_take, fates
from papers import SMALL, THREE_ROOMS, TINY, Papers, is_filled_by_hand, left_behind, spans_of, with_guests
from values import LAST, NO_ROWS, VALUES, Checks, none_of, shuffled

TWOS = Book(Lasts(Lengths.of(2)))
MOST = 10 ** 9


def let_within(calendar, book):
    return list(book.let_stays(calendar.first, calendar.after))


def some_wishes(source, calendar, book):
    """None to eight wishes, now and then the same stay again, with worths that are often equal."""
    stays = let_within(calendar, book)
    many = source.choice([0, 1, 2, 3, 4, 5, 8]) if stays else 0
    worths = source.choice([[0, 1, 2], [0], [5], [0, 3, MOST], [1, 2, 4, 8, 16], list(range(40))])
    kinds = [source.choice(stays) for _ in range(source.randint(1, 4))] if stays else []
    return [(source.choice(kinds if source.random() < 0.6 else stays), source.choice(worths)) for _ in range(many)]


def lots_by_hand(calendar, book, wishes):
    """All lots that can be taken, tried one by one."""
    spans = spans_of(calendar, book)
    for many in range(len(wishes) + 1):
        for lot in itertools.combinations(range(len(wishes)), many):
            if is_filled_by_hand(left_behind(calendar, [wishes[at][0] for at in lot]), spans):
                yield lot


def cases(seed, calendars):
    """Calendars that are sellable, their books, and wishes."""
    source = shuffled(seed, 1, lambda source: source)[0]
    for calendar, book in calendars:
        if is_sellable(calendar, book):
            for _ in range(2):
                yield calendar, book, some_wishes(source, calendar, book)


class Lots(Papers):
    """Mixed into a TestCase."""

    def check(self, calendar, book, wishes):
        paper = best_lot(calendar=calendar, book=book, wishes=wishes)
        self.is_lot(calendar, book, wishes, paper)
        return paper


class BestLotTest(Lots, unittest.TestCase):
    def test_against_all_lots(self):
        found = set()
        for calendar, book, wishes in cases(111, TINY + THREE_ROOMS):
            paper = self.check(calendar, book, wishes)
            lots = list(lots_by_hand(calendar, book, wishes))
            worths = [sum(wishes[at][1] for at in lot) for lot in lots]
            self.same(paper.worth, max(worths))
            self.assertIn(paper.taken, lots)
            best = [lot for lot, worth in zip(lots, worths) if worth == max(worths)]
            told = ["all" if all(at in lot for lot in best) else "some" if any(at in lot for lot in best) else "none"
                    for at in range(len(wishes))]
            self.same(fates(calendar=calendar, book=book, wishes=wishes), told)
            found.update(told)
            for lot in itertools.islice(itertools.product([False, True], repeat=len(wishes)), 0, None, 5):
                chosen = tuple(at for at, is_in in enumerate(lot) if is_in)
                self.same(can_take(calendar, book, [wishes[at][0] for at in chosen]), chosen in lots)
        self.assertEqual(found, {"all", "some", "none"})

    def test_small(self):
        for calendar, book, wishes in cases(112, SMALL):
            self.check(calendar, book, wishes)
            self.check(calendar, book, tuple(wishes))
            self.same(fates(calendar, book, tuple(wishes)), fates(calendar, book, wishes))

    def test_no_wishes(self):
        paper = best_lot(Calendar(1, 0, 4), TWOS, [])
        self.same([paper.taken, paper.worth, len(paper.stays)], [(), 0, 2])
        self.same(fates(Calendar(1, 0, 4), TWOS, ()), [])

    def test_more_wishes_than_rooms(self):
        wishes = [(Stay(0, 2), worth) for worth in [3, 9, 0, 9, 4, 8, 1, 8]]
        for rooms, worth, told in [(1, 9, "none some none some none none none none"),
                                   (2, 18, "none all none all none none none none"),
                                   (3, 26, "none all none all none some none some"),
                                   (4, 34, "none all none all none all none all"),
                                   (7, 42, "all all none all all all all all"),
                                   (8, 42, "all all some all all all all all")]:
            self.same(self.check(Calendar(rooms, 0, 4), TWOS, wishes).worth, worth)
            self.same(fates(Calendar(rooms, 0, 4), TWOS, wishes), told.split())

    def test_wish_of_no_worth(self):
        four = Calendar(1, 0, 4)
        self.same(fates(four, TWOS, [(Stay(0, 2), 0), (Stay(1, 3), 0)]), ["some", "none"])
        self.same(fates(four, TWOS, [(Stay(0, 2), 0), (Stay(0, 2), 1)]), ["none", "all"])
        self.same(fates(four, Book(Lasts(Lengths.of(1, 2))), [(Stay(1, 3), 0), (Stay(0, 2), 0)]), ["some", "some"])

    def test_greatest_worths(self):
        wishes = [(Stay(0, 2), MOST)] * 4 + [(Stay(0, 3), MOST - 1)] * 4
        paper = self.check(Calendar(6, 0, 5), Book(Lasts(Lengths.of(2, 3))), wishes)
        self.same(paper.worth, 4 * MOST + 2 * (MOST - 1))

    def test_last_days(self):
        for first in [LAST - 4, -LAST]:
            paper = self.check(Calendar(1, first, first + 4), TWOS, [(Stay(first + 2, first + 4), 7)])
            self.same(paper.taken, (0,))

    def test_greatest(self):
        begin = time.perf_counter()
        source = shuffled(113, 1, lambda source: source)[0]
        for nights in [1, 3, 9, 40]:
            for rows in [[Lengths.since(1)], [Lengths.of(1, 7)], [Lengths.of(1)] * 6 + [Lengths.of(1, 4)]]:
                calendar, book = with_guests(source, Calendar(12, -20, 20), 100, nights), Book.by_days(*rows)
                wishes = [(stay, source.choice([0, 1, 7, MOST])) for stay in source.choices(
                    let_within(calendar, book), k=8)]
                self.check(calendar, book, wishes)
                self.same(len(fates(calendar, book, wishes)), 8)
        self.assertLess(time.perf_counter() - begin, 60)

    def test_arguments_stay_as_they_are(self):
        for calendar, book, wishes in itertools.islice(cases(114, SMALL), 60):
            twin, text, told = calendar.twin(), str(book), list(wishes)
            first = best_lot(calendar, book, wishes)
            fates(calendar, book, wishes)
            self.same([twin == calendar, twin.names == calendar.names, str(book) == text], [True, True, True])
            self.same(all(one is other for one, other in zip(wishes, told)), True)
            self.same(best_lot(twin, book, wishes) == first, True)


class CanTakeTest(Papers, unittest.TestCase):
    def test_against_all_fills(self):
        source = shuffled(115, 1, lambda source: source)[0]
        found = []
        for calendar, book in TINY + THREE_ROOMS:
            stays, spans = let_within(calendar, book), spans_of(calendar, book)
            for many in [0, 1, 2, 3, 5]:
                taken = [source.choice(stays) for _ in range(many)] if stays else []
                by_hand = is_filled_by_hand(left_behind(calendar, taken), spans)
                self.same(can_take(calendar=calendar, book=book, stays=taken), by_hand)
                self.same(can_take(calendar, book, tuple(taken)), by_hand)
                found.append((many, by_hand))
        self.assertTrue(all((many, told) in found for many in [0, 1, 2, 3, 5] for told in [True, False]))

    def test_one_stay_several_times(self):
        for many in range(6):
            self.same(can_take(Calendar(3, 0, 4), TWOS, [Stay(2, 4)] * many), many <= 3)

    def test_over_full_nights(self):
        calendar = Calendar(2, 0, 4)
        calendar["ann"] = calendar["bo"] = Stay(0, 2)
        self.same([can_take(calendar, TWOS, [Stay(2, 4)]), can_take(calendar, TWOS, [Stay(0, 2)]),
                   can_take(calendar, TWOS, [Stay(2, 4), Stay(2, 4), Stay(2, 4)])], [True, False, False])

    def test_in_calendars_that_nothing_fills(self):
        self.same([can_take(Calendar(1, 0, 3), TWOS, []), can_take(Calendar(1, 0, 3), TWOS, [Stay(0, 2)]),
                   can_take(Calendar(1, 0, 3), Book.none(), ())], [False, False, False])

    def test_hundred_stays(self):
        ones = Book(Lasts(Lengths.of(1)))
        hundred = [Stay(night, night + 1) for night in range(25) for _ in range(4)]
        self.same([can_take(Calendar(4, 0, 40), ones, hundred), can_take(Calendar(3, 0, 40), ones, hundred)],
                  [True, False])
        full = Calendar(12, 0, 40)
        for number in range(100):
            full["".join("abcdefghij"[int(sign)] for sign in str(number))] = Stay(number % 40, number % 40 + 1)
        self.same(can_take(full, ones, hundred), True)


class WrongValuesTest(Checks, unittest.TestCase):
    CALENDAR = Calendar(2, 0, 4)

    def works(self, many):
        return [work for work, most in [(best_lot, 8), (fates, 8), (can_take, 100)] if most == many or many == 0]

    def test_calendar_and_book(self):
        for work in [best_lot, fates, can_take]:
            for value in none_of(Calendar):
                self.refused(BadCalendar, {"part": "calendar"}, work, value, value, value)
                self.refused(BadCalendar, {"part": "calendar"}, work, value, TWOS, [])
            for value in none_of(Book):
                self.refused(BadBook, {"part": "book"}, work, self.CALENDAR, value, value)
                self.refused(BadBook, {"part": "book"}, work, Calendar(1, 0, 1), value, [])

    def test_no_rows(self):
        for work in [best_lot, fates, can_take]:
            for value in [value for value in VALUES if not isinstance(value, (list, tuple))] + NO_ROWS:
                self.refused(BadWish, {"at": None}, work, self.CALENDAR, TWOS, value)

    def test_too_many(self):
        wish = (Stay(0, 2), 1)
        for work in [best_lot, fates]:
            for value in [[wish] * 9, (wish,) * 9, [None] * 9, [wish] * 3000]:
                self.refused(TooMany, {"what": "wishes", "most": 8}, work, self.CALENDAR, TWOS, value)
            work(self.CALENDAR, TWOS, [wish] * 8)
        for value in [[Stay(0, 2)] * 101, (None,) * 101]:
            self.refused(TooMany, {"what": "stays", "most": 100}, can_take, self.CALENDAR, TWOS, value)
        self.same(can_take(self.CALENDAR, TWOS, [Stay(0, 2)] * 100), False)

    def test_first_wrong_wish(self):
        good = (Stay(0, 2), 1)
        stays = [Stay(0, 3), Stay(3, 5), Stay(-1, 1), Stay(4, 6), Stay(-2, 0)]
        wrong = [value for value in VALUES] + [[Stay(0, 2), 1], (Stay(0, 2),), (Stay(0, 2), 1, 1), ()]
        wrong = wrong + [(value, 1) for value in none_of(Stay) + stays]
        wrong = wrong + [(Stay(0, 2), value) for value in VALUES if type(value) is not int]
        wrong = wrong + [(Stay(0, 2), -1), (Stay(0, 2), MOST + 1), (Stay(0, 2), 10 ** 59)]
        for work in [best_lot, fates]:
            for value in wrong:
                for calendar in [self.CALENDAR, Calendar(1, 0, 3)]:
                    self.refused(BadWish, {"at": 0}, work, calendar, TWOS, [value])
                    self.refused(BadWish, {"at": 2}, work, calendar, TWOS, (good, good, value, None))
            work(self.CALENDAR, TWOS, [(Stay(0, 2), 0), (Stay(0, 2), MOST)])

    def test_first_wrong_stay(self):
        wrong = none_of(Stay) + [Stay(0, 3), Stay(3, 5), Stay(-1, 1), Stay(4, 6), (Stay(0, 2), 1)]
        for value in wrong:
            self.refused(BadWish, {"at": 0}, can_take, self.CALENDAR, TWOS, (value,))
            self.refused(BadWish, {"at": 5}, can_take, Calendar(1, 0, 3), TWOS, [Stay(0, 2)] * 5 + [value, value])

    def test_dead(self):
        for work in [best_lot, fates]:
            for wishes in [[], [(Stay(0, 2), 1)]]:
                self.refused(Dead, {"bar": (0, 2)}, work, Calendar(1, 0, 3), TWOS, wishes)


class PaperTest(Checks, unittest.TestCase):
    def test_paper(self):
        self.same(issubclass(Lot, Paper), True)
        self.defines(Lot, ["__init__", "__eq__"])
        self.holds(Lot, ["taken", "stays", "heights", "worth"])
        self.alone(Lot((), (), {}, 0), VALUES)


if __name__ == "__main__":
    unittest.main()
