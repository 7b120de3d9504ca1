"""Points [2], [5] and [13], and the heading nodeadnight/judge.py."""

import itertools
import time
import unittest

from nodeadnight.books import Book
from nodeadnight.days import Days
from nodeadnight.doors import Ahead, All, Behind, Door, Lets, No, Some, Weakest
from nodeadnight.errors import BadBook, BadDoor, BadStretch, TooMany
from nodeadnight.judge import Case, Story, Table, is_safe, parted, story, thumb
from nodeadnight.lengths import Lengths
from nodeadnight.rules import Comes, Goes, Lasts
from nodeadnight.stays import Stay
from nodeadnight.stretches import Stretch, alive, fillable, is_live
from doors_made import Live, parts_of, sales_of, some_door, some_small_book, walk
from values import LAST, VALUES, Checks, none_of, shuffled

THREES = Book(Lasts(Lengths.of(3, 4)))
TWOS = Book(Lasts(Lengths.of(2)))
REST = Lengths.of(0) | Lengths.since(3)
CLERK = Ahead(REST) & Behind(REST)
REACH = {"what": "reach", "most": 36}
LONG = Book(Lasts(Lengths.of(1, 35)))


def drawn(source):
    book = some_small_book(source)
    one, other = some_door(source, book), some_door(source, book)
    # Now and then a door that sells whatever is finite, so that it can be parted in endless stretches alone.
    return book, one, other if source.random() < 0.7 else Behind(Lengths.every(), False) | other


DRAWN = shuffled(121, 160, drawn)


def longer_round(source):
    """A book of a round of three to seven days, on some of which nothing is let, that the judge takes."""
    while True:
        rows = [Lengths.of(*source.sample(range(1, 6), source.choice([0, 1, 1, 2])))
                for _ in range(source.randint(3, 7))]
        book = Book.by_days(*rows)
        if book.round > 2 and book.size <= 60 and sum(reach_of(book)) <= 20:
            return book


def reach_of(book, sets=(), turns=()):
    """T and Q of a book, with further sets and rounds."""
    told = [book.lengths_on(day) for day in range(book.round)] + [fillable(book, day) for day in range(book.round)]
    told = told + list(sets)
    turn = least_common([book.round, *turns])
    return max([turn] + [each.start for each in told]), least_common([turn] + [each.period for each in told])


def least_common(numbers):
    return next(n for n in itertools.count(1) if all(n % number == 0 for number in numbers))


def first_by_hand(one, other, book, most, days):
    """The first case by nights, days and stays; of endless stretches with at most so many nights ahead and within."""
    live = Live(book, most)
    for nights, day in itertools.product(range(1, most + 1), range(days)):
        if live(day, nights):
            refused = sales_of(other, book, day, nights)
            for stay in sales_of(one, book, day, nights):
                if stay not in refused:
                    return Case(Stretch(day, nights), stay)
    for day in range(days):
        endless = Stretch(day, None)
        if day in alive(book):
            for first in range(day, day + most):
                for after in range(first + 1, first + most):
                    stay = Stay(first, after)
                    if stay in book and one(endless, stay) and not other(endless, stay):
                        return Case(endless, stay)
    return None


class PartedTest(Checks, unittest.TestCase):
    def test_against_all_stretches(self):
        found = []
        for book, one, other in DRAWN:
            paper = parted(one=one, other=other, book=book)
            # All sets that are drawn come round from 5 on at the latest, by 2 or by what rows of the book fill.
            by_hand = first_by_hand(one, other, book, 24, 2)
            self.same(paper, by_hand)
            found.append(None if paper is None else paper.stretch.is_endless)
        self.assertTrue(all(found.count(kind) >= 5 for kind in [None, True, False]), found)

    def test_up_to_several_times_the_period(self):
        for book in [THREES, Book.by_days(Lengths.of(2), Lengths.of(1, 4), Lengths.of(3)), Book.every()]:
            begin, period = reach_of(book, [REST])
            most = 3 * (begin + period) + period
            for door in [CLERK, Weakest(book), Ahead(Lengths.of(0))]:
                self.same(parted(door, Weakest(book), book), first_by_hand(door, Weakest(book), book, most, book.round))

    def test_far_cases(self):
        # With stays of 1 and of 20 nights all is live; what parts the doors lies far from the begin of the stretch.
        book = Book(Lasts(Lengths.of(1, 20)))
        one, far = All(), No(Ahead(Lengths.of(14)) & Behind(Lengths.of(13)) & Lets(Lasts(Lengths.of(20))))
        self.assertEqual(parted(one, far, book), Case(Stretch(0, 47), Stay(14, 34)))
        self.same(parted(far, one, book), None)
        other = No(Ahead(Lengths.of(14)) & Behind(Lengths.none()) & Lets(Lasts(Lengths.of(20))))
        self.assertEqual(parted(one, other, book), Case(Stretch(0, None), Stay(14, 34)))
        fives = Some(Weakest(Book(Lasts(Lengths.of(5)))), No(Lets(Lasts(Lengths.of(5)))))
        self.assertEqual(parted(All(), fives, Book(Lasts(Lengths.of(1, 5)))), Case(Stretch(0, 6), Stay(0, 5)))

    def test_endless_stretches_of_longer_rounds(self):
        found = []
        for book in shuffled(122, 40, longer_round):
            # The door sells in endless stretches alone; there the weakest one asks whether the days behind are live.
            one, other = Behind(Lengths.none()), Weakest(book)
            begin, period = reach_of(book)
            self.same(parted(one, other, book), first_by_hand(one, other, book, begin + period, book.round))
            self.same(parted(other, one, book) is None, first_by_hand(other, one, book, 8, book.round) is None)
            found.append(parted(one, other, book) is None)
        self.assertTrue(5 < sum(found) < 35)

    def test_the_least_day_and_the_first_stay(self):
        book = Book(Lasts(Lengths.of(1)))
        for turn, rest in [(7, 0), (7, 3), (7, 6), (5, 4)]:
            door = No(Lets(Comes(Days.on(turn, rest))))
            self.assertEqual(parted(All(), door, book), Case(Stretch(rest, 1), Stay(rest, rest + 1)))
            later = No(Lets(Comes(Days.on(turn, rest))) & Ahead(Lengths.since(2)))
            case = parted(All(), later, book)
            self.same([case.stretch.nights, case.stretch.day], [3, (rest - 2) % turn])
            endless = Some(Behind(Lengths.every(), False), door)
            self.assertEqual(parted(All(), endless, book), Case(Stretch(0, None), Stay(rest, rest + 1)))

    def test_none_where_one_sells_no_more(self):
        for book, one, other in DRAWN[:60]:
            self.same(parted(All(one, other), one, book), None)
            self.same(parted(one, Some(other, one), book), None)
            self.same(parted(one, one, book), None)
            self.same(parted(Some(), one, book), None)
            self.same(parted(one, Lets(Lasts(Lengths.since(1))), book), None)

    def test_stays_that_are_not_let_play_no_part(self):
        self.same(parted(All(), Lets(Lasts(Lengths.of(3, 4))), THREES), None)
        self.same(parted(All(), Some(), Book.none()), None)
        self.assertEqual(parted(All(), Lets(Lasts(Lengths.of(4))), THREES), Case(Stretch(0, 3), Stay(0, 3)))


class SafeTest(Checks, unittest.TestCase):
    def test_against_all_sales(self):
        found = []
        for book, one, other in DRAWN:
            live = Live(book, 24)
            for door in [one, other]:
                # A sale in a live stretch that leaves a dead one, whatever stretch it is.
                wrong = [stay for nights in range(1, 21) for day in range(2) if live(day, nights)
                         for stay in sales_of(door, book, day, nights)
                         if not all(live(*part) for part in parts_of(stay, day, nights))]
                wrong = wrong + [stay for day in range(2) if day in alive(book) for first in range(day, day + 12)
                                 for stay in [Stay(first, first + n) for n in range(1, 12)]
                                 if stay in book and door(Stretch(day, None), stay)
                                 and not (live(day, first - day) and is_live(book, Stretch(stay.after, None)))]
                self.same(is_safe(door=door, book=book), not wrong)
                found.append(not wrong)
        self.assertTrue(20 < sum(found) < len(found) - 20)

    def test_the_weakest_door_is_safe(self):
        for book, one, other in DRAWN:
            self.same(is_safe(Weakest(book), book), True)
            self.same([is_safe(Weakest(book) & one, book), is_safe(one - Weakest(book), book)],
                      [True, parted(one, Weakest(book), book) is None])

    def test_known(self):
        self.same([is_safe(CLERK, THREES), is_safe(All(), THREES), is_safe(Some(), THREES)], [False, False, True])
        self.same([is_safe(All(), Book.every()), is_safe(All(), Book.none())], [True, True])
        self.same([is_safe(Weakest(THREES), TWOS), is_safe(Weakest(Book(Lasts(Lengths.of(4)))), TWOS)], [True, True])
        self.same([is_safe(Ahead(Lengths.steps(0, 2)), TWOS), is_safe(Behind(Lengths.steps(0, 2)), TWOS)],
                  [True, False])
        self.same([is_safe(Behind(Lengths.steps(0, 2), False), TWOS), is_safe(Behind(Lengths.every()), TWOS)],
                  [True, False])


class ThumbTest(Checks, unittest.TestCase):
    def by_hand(self, book, most):
        for least in range(1, most):
            rest = Lengths.of(0) | Lengths.since(least)
            if first_by_hand(Ahead(rest) & Behind(rest), Weakest(book), book, 3 * most, book.round) is None:
                return least
        return None

    def test_against_all_sales(self):
        found = {}
        for text in [[3, 4], [2], [1], [2, 3], [1, 5], [3, 5], [2, 4], [2, 5], [4], [2, 7]]:
            book = Book(Lasts(Lengths.of(*text)))
            found[tuple(text)] = self.by_hand(book, 10)
            self.same(thumb(book=book), found[tuple(text)])
        self.same([found[2, 3], found[3, 5], found[1, 5], found[2, 4]], [2, 8, 1, None])

    def test_rounds(self):
        for book in [some[0] for some in DRAWN[:60]] + [Book.every(), Book.none()]:
            begin, _ = reach_of(book)
            self.same(thumb(book), self.by_hand(book, begin + 2))

    def test_known(self):
        for nights, least in [((3, 4), 6), ((2,), None), ((1,), 1), ((4, 5), 12), ((5, 6), 20)]:
            self.same(thumb(Book(Lasts(Lengths.of(*nights)))), least)
        self.same([thumb(Book.none()), thumb(Book(Lasts(Lengths.since(9))))], [1, 9])


def last_stretches(stays, day, nights):
    """The free stretches behind each sale of a row, each sold in the free stretch in which it lies; with the sold."""
    free, steps = [(day, nights)], []
    for stay in stays:
        at = next(place for place in free if place[0] <= stay.first and stay.after <= sum(place))
        steps.append((at, parts_of(stay, *at)))
        free = [place for place in free if place != at] + parts_of(stay, *at)
    return steps


class StoryTest(Checks, unittest.TestCase):
    def check(self, door, book, stretch, live):
        paper = story(door=door, book=book, stretch=stretch)
        came = walk(door, book, stretch.day, stretch.nights)
        dead = [many for (day, nights), many in came.items() if not live(day, nights)]
        if dead:
            self.assertIs(type(paper), Story)
            self.assertIs(type(paper.stays), tuple)
            self.same(len(paper.stays), min(dead))
            steps = last_stretches(paper.stays, stretch.day, stretch.nights)
            for stay, (place, parts) in zip(paper.stays, steps):
                self.same([stay in book, door(Stretch(*place), stay)], [True, True])
                self.same(all(live(*part) for part in parts), stay is not paper.stays[-1])
            return len(paper.stays)
        order = sorted(place for place in came if place[1] > 0)
        self.assertEqual(paper, Table(tuple(Stretch(day, nights) for day, nights in order)))
        return 0

    def test_against_all_sales(self):
        found = []
        for book, one, other in DRAWN:
            live = Live(book, 12)
            for day, nights in itertools.product([0, 1, -7, LAST - 13], [0, 1, 2, 3, 5, 8, 11]):
                if live(day, nights):
                    found.append(self.check(one, book, Stretch(day, nights), live))
        self.assertTrue(all(found.count(many) >= 5 for many in [0, 1, 2]), found)

    def test_long_rows_of_sales(self):
        # One night is sold at the begin of the stretch again and again, until so few are left that nothing fills them.
        book = Book(Lasts(Lengths.of(1, 3)))
        first = Ahead(Lengths.of(0)) & Lets(Lasts(Lengths.of(1)))
        stuck = Book(Lasts(Lengths.of(2, 3)))
        pairs = Ahead(Lengths.of(0)) & Lets(Lasts(Lengths.of(2)))
        for nights in range(2, 31):
            live = Live(book, 30)
            self.same(self.check(first, book, Stretch(5, nights), live), 0)
            self.same(len(story(first, book, Stretch(5, nights)).stretches), nights)
            live = Live(stuck, 30)
            many = self.check(pairs, stuck, Stretch(5, nights), live)
            self.same(many, (nights - 1) // 2 if nights % 2 else 0)

    def test_clerk(self):
        live = Live(THREES, 31)
        for nights in range(31):
            if live(0, nights):
                self.check(CLERK, THREES, Stretch(2, nights), live)
                self.check(Weakest(THREES), THREES, Stretch(2, nights), live)

    def test_no_nights(self):
        for door in [All(), Some(), CLERK]:
            for day in [0, LAST, -LAST]:
                self.assertEqual(story(door, THREES, Stretch(day, 0)), Table(()))
        self.assertEqual(story(Some(), THREES, Stretch(4, 30)), Table((Stretch(4, 30),)))

    def test_last_days(self):
        for first in [LAST - 30, -LAST]:
            self.assertEqual(story(Some(), TWOS, Stretch(first, 30)), Table((Stretch(first, 30),)))
            table = story(Weakest(TWOS), TWOS, Stretch(first, 4))
            self.assertEqual(table, Table((Stretch(first, 2), Stretch(first, 4), Stretch(first + 2, 2))))


def work_with(name, book):
    """Each function that takes doors, with all but one of them given."""
    if name == "one":
        return lambda door: parted(door, CLERK, book)
    if name == "other":
        return lambda door: parted(CLERK, door, book)
    return lambda door: is_safe(door, book)


class ErrorsTest(Checks, unittest.TestCase):
    def test_doors_and_books(self):
        for value in none_of(Door):
            self.refused(BadDoor, {"part": "one"}, parted, value, value, value)
            self.refused(BadDoor, {"part": "one"}, parted, value, CLERK, LONG)
            self.refused(BadDoor, {"part": "other"}, parted, CLERK, value, value)
            self.refused(BadDoor, {"part": "door"}, is_safe, value, value)
            self.refused(BadDoor, {"part": "door"}, story, value, value, value)
        for value in none_of(Book):
            self.refused(BadBook, {"part": "book"}, parted, CLERK, CLERK, value)
            self.refused(BadBook, {"part": "book"}, is_safe, CLERK, value)
            self.refused(BadBook, {"part": "book"}, story, CLERK, value, value)
            self.refused(BadBook, {"part": "book"}, thumb, value)

    def all_refused(self, error, fields, doors, book):
        for door in doors:
            for name in ["one", "other", "door"]:
                self.refused(error, fields, work_with(name, book), door)
            self.refused(error, fields, story, door, book, None)

    def test_books_too_great(self):
        great, wide = Book(Lasts(Lengths.of(1, 60))), sizes_too_many()
        size, lengths = {"what": "size", "most": 60}, {"what": "lengths", "most": 400}
        self.refused(TooMany, size, thumb, great)
        self.refused(TooMany, lengths, thumb, wide)
        self.all_refused(TooMany, size, [CLERK, Weakest(wide)], great)
        self.all_refused(TooMany, lengths, [CLERK, Weakest(great)], wide)
        self.all_refused(TooMany, size, [Weakest(great), No(Some(CLERK, Weakest(great), Weakest(wide)))], THREES)
        self.all_refused(TooMany, lengths, [Weakest(wide) & Weakest(great)], THREES)
        self.refused(TooMany, size, parted, Weakest(great), Weakest(wide), THREES)
        self.refused(TooMany, lengths, parted, Weakest(wide), Weakest(great), THREES)
        # Ahead of the round and of the reach.
        self.all_refused(TooMany, size, [Lets(Comes(Days.on(5, 1))) & Lets(Comes(Days.on(3, 1))) & Weakest(great)],
                         THREES)

    def test_round(self):
        five, three = Lets(Comes(Days.on(5, 1))), Lets(Goes(Days.on(3, 1)) | Lasts(Lengths.of(300)))
        two = Book.by_days(Lengths.of(1), Lengths.none())
        fields = {"what": "round", "most": 7}
        self.all_refused(TooMany, fields, [five & three, Some(three, No(five)), Weakest(two) & five], THREES)
        self.all_refused(TooMany, fields, [five, Some(five)], two)
        self.refused(TooMany, fields, parted, five, three, THREES)
        six = Lets(Goes(Days.on(3, 1)))
        self.same([parted(six, six, two), is_safe(six & Weakest(two), two)], [None, True])
        self.same(parted(Lets(Comes(Days.on(7, 1))), All(), THREES), None)

    def test_reach(self):
        for most, refused in [(34, False), (35, True), (40, True), (58, True)]:
            book = Book(Lasts(Lengths.of(1, most)))
            doors = [Ahead(Lengths.of(most)), No(Behind(Lengths.of(1, most))), Lets(Lasts(Lengths.of(most))),
                     Weakest(book) & CLERK]
            if refused:
                self.refused(TooMany, REACH, thumb, book)
                self.all_refused(TooMany, REACH, [CLERK], book)
                self.all_refused(TooMany, REACH, doors, TWOS if most > 35 else Book(Lasts(Lengths.of(1))))
            else:
                self.same([thumb(book), is_safe(CLERK, book)], [1, True])
                for door in doors:
                    self.same(parted(door, door, Book(Lasts(Lengths.of(1)))), None)

    def test_reach_by_the_period(self):
        ones = Book(Lasts(Lengths.of(1)))
        # T is the greatest start, Q the common period of all sets and of the round: here 5 with 31, then 6 with 31.
        for start, by, round_of, refused in [
            (1, 34, 1, False), (2, 34, 1, False), (3, 34, 1, True), (0, 35, 1, True), (0, 34, 1, False),
            (6, 15, 2, False), (7, 15, 2, True), (6, 10, 3, False), (7, 10, 3, True), (14, 4, 6, False),
            (25, 4, 6, True), (24, 4, 6, False), (29, 7, 7, False), (30, 7, 7, True),
        ]:
            lengths = Lengths(start, (), by, ((start - 1) % by,))
            door = Ahead(lengths) & Lets(Comes(Days.on(round_of, 0)))
            self.same((lengths.start, lengths.period), (start, by))
            if refused:
                self.all_refused(TooMany, REACH, [door], ones)
            else:
                self.same(parted(door, All(), ones), None)

    def test_fillable_counts(self):
        # The lengths have starts up to 8, but from 7 and 8 nights on all is filled from 42 on only.
        book = Book(Lasts(Lengths.of(7, 8)))
        self.same(fillable(book, 0).start, 42)
        self.refused(TooMany, REACH, thumb, book)
        self.all_refused(TooMany, REACH, [CLERK], book)
        self.all_refused(TooMany, REACH, [Weakest(book)], THREES)

    def test_stretches(self):
        wrong = none_of(Stretch) + [Stretch(0, None), Stretch(0, 31), Stretch(0, 400), Stretch(LAST - 2, 3),
                                    Stretch(LAST, 6), Stretch(0, 1), Stretch(0, 2), Stretch(0, 5)]
        for value in wrong:
            for door in [CLERK, Weakest(THREES), All()]:
                self.refused(BadStretch, {"part": "stretch"}, story, door, THREES, value)
        self.refused(BadStretch, {"part": "stretch"}, story, All(), Book.none(), Stretch(0, 1))
        late = Book.by_days(Lengths.of(2), Lengths.none())
        self.refused(BadStretch, {"part": "stretch"}, story, All(), late, Stretch(1, 2))
        self.assertEqual(story(All(), late, Stretch(2, 2)), Table((Stretch(2, 2),)))
        self.refused(TooMany, REACH, story, All(), LONG, Stretch(0, None))


def sizes_too_many():
    """A book of which fillable refuses the lengths, though it is not too great."""
    for low in range(20, 58):
        book = Book(Lasts(Lengths.of(low, low + 1)))
        try:
            fillable(book, 0)
        except TooMany as error:
            assert error.what == "lengths"
            return book
    raise AssertionError("no such book")


class TimeTest(Checks, unittest.TestCase):
    def test_greatest(self):
        begin = time.perf_counter()
        for turn in [7, 5, 1]:
            book = Book.by_days(*[Lengths.of(2, 3 + day) for day in range(turn)])
            door = All(*[No(Ahead(Lengths.of(20)))] * 8, *[Weakest(book)] * 8)
            self.same([is_safe(door, book), thumb(book) is None], [True, False])
            live = Live(book, 30)
            longest = max(nights for nights in range(31) if live(0, nights))
            self.assertIs(type(story(door, book, Stretch(0, longest))), Table)
        self.assertLess(time.perf_counter() - begin, 60)


class PapersTest(Checks, unittest.TestCase):
    def test_papers(self):
        kinds = [(Case, ["stretch", "stay"]), (Story, ["stays"]), (Table, ["stretches"])]
        for kind, names in kinds:
            self.defines(kind, ["__init__", "__eq__"])
            self.holds(kind, names)
        papers = [Case(Stretch(9, 3), Stay(9, 12)), Story((Stay(9, 12),)), Table((Stretch(9, 3),))]
        for paper in papers:
            self.alone(paper, [*VALUES, *[other for other in papers if other is not paper]])
        self.same([Story(()) == Table(()), Story(()) != Table(())], [False, True])


if __name__ == "__main__":
    unittest.main()
