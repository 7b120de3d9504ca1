"""Points [2] and [14], and the heading nodeadnight/houses.py."""

import itertools
import time
import unittest

from nodeadnight.books import Book
from nodeadnight.calendars import Calendar
from nodeadnight.errors import (
    BadBook, BadCalendar, BadName, BadRow, BadStay, Dead, Full, Loose, NoDeed, NoGuest, NotLet, Outside, Taken,
    TooMany,
)
from nodeadnight.fills import Fill, is_sellable
from nodeadnight.houses import House
from nodeadnight.lengths import Lengths
from nodeadnight.rules import Lasts
from nodeadnight.stays import Stay
from house_model import BOOKS, ONES, SHORT, THREES, TWOS, Compared, Model, empty, is_named, some_deed
from papers import Papers, name_of
from values import LAST, NO_ROWS, VALUES, no_days, none_of, shuffled

ONES = Book(Lasts(Lengths.of(1)))
TWOS = Book(Lasts(Lengths.of(2)))
THREES = Book(Lasts(Lengths.of(3)))
SHORT = Book(Lasts(Lengths.of(2, 3)))

class Houses(Papers, Compared):
    """Mixed into a TestCase."""

    def dead(self, calendar, book, work, *arguments):
        """Checks that work raises a Dead with a bar of this calendar."""
        with self.assertRaises(Dead) as caught:
            work(*arguments)
        self.is_bar(calendar, book, caught.exception.bar)


class OpenTest(Houses, unittest.TestCase):
    def test_wrong_parts(self):
        for value in none_of(Book):
            self.refused(BadBook, {"part": "book"}, House, value, value, value, value)
        for value in VALUES:
            if not (type(value) is int and 1 <= value <= 12):
                self.refused(BadCalendar, {"part": "rooms"}, House, Book.none(), value, value, value)
        for value in no_days():
            self.refused(BadCalendar, {"part": "first"}, House, Book.none(), 1, value, value)
            self.refused(BadCalendar, {"part": "after"}, House, Book.none(), 12, 0, value)
        for value in [0, 13, -1]:
            self.refused(BadCalendar, {"part": "rooms"}, House, TWOS, value, 0, 0)
        for after in [0, -1, 41]:
            self.refused(BadCalendar, {"part": "after"}, House, TWOS, 1, 0, after)

    def test_dead(self):
        for book in BOOKS:
            for rooms, first, nights in itertools.product([1, 2, 12], [0, 1, -3], [1, 2, 3, 5, 8]):
                calendar = Calendar(rooms, first, first + nights)
                if is_sellable(calendar, book):
                    house = House(book, rooms, first, first + nights)
                    self.same([house.names, house.deeds, house.calendar_now() == calendar], [(), 0, True])
                else:
                    self.dead(calendar, book, House, book, rooms, first, first + nights)

    def test_by_name(self):
        house = House(after=4, first=0, rooms=2, book=TWOS)
        self.same([house.book == TWOS, house.rooms, house.first, house.after], [True, 2, 0, 4])

    def test_bounds(self):
        for parts in [(TWOS, 12, 0, 40), (TWOS, 1, LAST - 4, LAST), (TWOS, 1, -LAST, 40 - LAST)]:
            self.same(House(*parts).rooms, parts[1])

    def test_class(self):
        self.defines(House, ["__init__", "__setitem__", "sell", "__iadd__", "sells", "offers", "sell_all",
                             "__getitem__", "__contains__", "__len__", "__iter__", "names", "cancel", "change", "book",
                             "set_book", "rooms", "set_rooms", "calendar_now", "fill_now", "undo", "deeds", "trial",
                             "tried", "twin", "__eq__"])


class DeedsTest(Houses, unittest.TestCase):
    def test_drawn_deeds(self):
        found = []
        for parts in shuffled(131, 90, empty):
            source = shuffled(str(parts[1:]), 1, lambda source: source)[0]
            model, house = Model(*parts), House(*parts)
            for _ in range(25):
                word, arguments = some_deed(source, model)
                found.append((word, self.same_outcome(model, house, word, *arguments)))
        for pair in [("sell", "sell"), ("sell", Taken), ("sell", Outside), ("sell", NotLet), ("sell", Full),
                     ("sell", Dead), ("sell_all", "sell_all"), ("sell_all", Taken), ("sell_all", Full),
                     ("sell_all", Dead), ("sell_all", NotLet), ("change", "change"), ("change", NoGuest),
                     ("change", Outside), ("change", NotLet), ("change", Full), ("change", Dead),
                     ("cancel", "cancel"), ("cancel", NoGuest), ("set_book", "set_book"), ("set_book", Loose),
                     ("set_book", Dead), ("set_rooms", "set_rooms"), ("set_rooms", Full),
                     ("undo", "undo"), ("undo", NoDeed)]:
            self.assertGreaterEqual(found.count(pair), 3, pair)

    def test_each_sale_against_all_fills(self):
        for parts in shuffled(132, 60, empty):
            source = shuffled(str(parts[1:]), 1, lambda source: source)[0]
            model, house = Model(*parts), House(*parts)
            for _ in range(4):
                days = range(max(-LAST, model.first - 2), min(LAST, model.after + 2) + 1)
                stays = [Stay(first, after) for first in days for after in days if first < after]
                sold = [stay for stay in stays if model.sells(stay)]
                self.same([stay for stay in stays if house.sells(stay)], sold)
                offers = list(house.offers())
                self.assertEqual(offers, sold)
                for stay in stays[::3]:
                    self.same_outcome(model.twin(), house.twin(), "sell", "new", stay)
                if not sold:
                    break
                self.same_outcome(model, house, "sell", name_of(len(model.rows)), source.choice(sold))

    def test_three_ways_to_sell(self):
        for way in range(3):
            house = same = House(SHORT, 2, 0, 5)
            if way == 0:
                house["ann"] = Stay(0, 2)
            elif way == 1:
                self.same(house.sell(name="ann", stay=Stay(0, 2)), None)
            else:
                house += ("ann", Stay(0, 2))
            self.assertIs(house, same)
            self.same([house["ann"] == Stay(0, 2), house.deeds, house.undo(), house.deeds], [True, 1, "sell", 0])

    def test_refused_by_the_first_reason(self):
        def told(house):
            house["ann"] = Stay(0, 2)
            house["bo"] = Stay(0, 3)
            return house

        def added(house, name, stay):
            house += (name, stay)

        for sell in [House.sell, House.__setitem__, added]:
            house = told(House(SHORT, 2, 0, 5))
            for value in [value for value in VALUES if not is_named(value)] + ["Ann", "a" * 9, "a1", "a b", "\n"]:
                self.refused(BadName, {"value": value}, sell, house, value, value)
            for value in none_of(Stay):
                self.refused(Taken, {"name": "bo"}, sell, house, "bo", value)
                self.refused(BadStay, {"part": "stay"}, sell, house, "cy", value)
            for stay in [Stay(-1, 3), Stay(3, 6), Stay(-5, 9), Stay(5, 6)]:
                self.refused(Outside, {"stay": stay}, sell, house, "cy", stay)
            for stay in [Stay(0, 1), Stay(0, 5), Stay(1, 2)]:
                self.refused(NotLet, {"stay": stay}, sell, house, "cy", stay)
            for stay, night in [(Stay(0, 2), 0), (Stay(1, 3), 1), (Stay(1, 4), 1)]:
                self.refused(Full, {"night": night}, sell, house, "cy", stay)
            as_it_would_be = house.calendar_now()
            as_it_would_be["cy"] = Stay(2, 4)
            self.dead(as_it_would_be, SHORT, sell, house, "cy", Stay(2, 4))
            self.same([house.names, house.deeds], [("ann", "bo"), 2])

    def test_guests(self):
        house = House(ONES, 3, 0, 40)
        stays = [Stay(number % 40, number % 40 + 1) for number in range(120)]
        house.sell_all([(name_of(number), stays[number]) for number in range(99)])
        self.same([len(house), house.sells(stays[99]), len(list(house.offers())), house.sells(stays[0])],
                  [99, True, 21, False])
        house["last"] = stays[99]
        self.same([len(house), house.sells(stays[100]), list(house.offers())], [100, False, []])
        self.refused(TooMany, {"what": "guests", "most": 100}, house.sell, "more", stays[100])
        self.refused(TooMany, {"what": "guests", "most": 100}, house.sell_all, [("more", stays[100])])
        self.refused(Full, {"night": 0}, house.sell, "more", stays[0])
        self.refused(NotLet, {"stay": Stay(0, 2)}, house.sell, "more", Stay(0, 2))
        self.refused(BadStay, {"part": "stay"}, house.sells, None)
        house.change("last", stays[100])
        house.sell_all(())
        self.same([house["last"] == stays[100], len(house), house.deeds], [True, 100, 4])
        house.cancel("last")
        self.same(house.sells(stays[100]), True)

    def test_sells_and_wrong_values(self):
        house = House(SHORT, 1, 0, 5)
        for value in none_of(Stay):
            self.refused(BadStay, {"part": "stay"}, house.sells, value)
        self.same([house.sells(stay=Stay(0, 2)), house.sells(Stay(-1, 2)), house.sells(Stay(0, 1)),
                   house.sells(Stay(0, 400))], [True, False, False, False])

    def test_offers_when_the_first_one_is_asked_for(self):
        house = House(SHORT, 1, 0, 5)
        offers = house.offers()
        house["ann"] = Stay(0, 2)
        self.same([str(stay) for stay in offers], ["2+3"])
        house.cancel("ann")
        offers = house.offers()
        found = [str(next(offers))]
        house["ann"] = Stay(0, 3)
        house.book = Book(Lasts(Lengths.of(2, 3, 5)))
        self.same(found + [str(stay) for stay in offers], ["0+2", "0+3", "2+3", "3+2"])
        self.same([str(stay) for stay in house.offers()], ["3+2"])
        house["bo"] = Stay(3, 5)
        self.same(list(house.offers()), [])


class SellAllTest(Houses, unittest.TestCase):
    def test_wrong_rows(self):
        house = House(TWOS, 1, 0, 4)
        for value in [value for value in VALUES if not isinstance(value, (list, tuple))] + NO_ROWS:
            self.refused(BadRow, {"at": None}, house.sell_all, value)
        good = ("ann", Stay(0, 2))
        for value in VALUES + [["ann", Stay(0, 2)], ("ann",), ("ann", Stay(0, 2), 1)]:
            if not (isinstance(value, tuple) and len(value) == 2):
                self.refused(BadRow, {"at": 0}, house.sell_all, [value])
                self.refused(BadRow, {"at": 2}, house.sell_all, (good, (None, None), value, None))
        self.refused(BadName, {"value": None}, house.sell_all, rows=[good, (None, None)])
        self.refused(Taken, {"name": "ann"}, house.sell_all, [good, good])
        self.refused(BadStay, {"part": "stay"}, house.sell_all, [good, ("bo", 7)])
        self.refused(Full, {"night": 0}, house.sell_all, [good, ("bo", Stay(0, 2))])
        self.same([house.names, house.deeds], [(), 0])

    def test_all_or_nothing(self):
        house = House(SHORT, 2, 0, 5)
        self.same(house.sell_all([("cy", Stay(0, 2)), ("bo", Stay(0, 3)), ("ann", Stay(3, 5))]), None)
        self.same([house.names, house.deeds], [("cy", "bo", "ann"), 1])
        self.refused(Full, {"night": 3}, house.sell_all, [("al", Stay(2, 5)), ("di", Stay(3, 5))])
        self.same([house.names, house.deeds], [("cy", "bo", "ann"), 1])
        self.same([house.undo(), house.names, house.deeds], ["all", (), 0])

    def test_the_first_refused_sale_tells(self):
        house = House(Book.by_days(Lengths.of(3), Lengths.of(2), Lengths.none()), 2, 0, 3)
        alone = house.calendar_now()
        alone["ann"] = Stay(1, 3)
        self.refused(NotLet, {"stay": Stay(0, 1)}, house.sell_all, [("ann", Stay(0, 1)), ("bo", Stay(1, 3))])
        self.dead(alone, house.book, house.sell_all, [("ann", Stay(1, 3)), ("bo", Stay(1, 3)), ("cy", 7)])
        self.dead(alone, house.book, house.sell_all, (("ann", Stay(1, 3)), ("ann", None)))
        self.dead(alone, house.book, house.sell_all, (("ann", Stay(1, 3)), (None, None)))
        alone.drop("ann")
        alone["bo"], alone["ann"] = Stay(0, 3), Stay(1, 3)
        self.dead(alone, house.book, house.sell_all, (("bo", Stay(0, 3)), ("ann", Stay(1, 3))))
        self.same([house.names, house.deeds], [(), 0])

    def test_no_rows(self):
        house = House(TWOS, 1, 0, 4)
        house.sell_all([])
        house.sell_all(())
        self.same([house.deeds, house.undo(), house.undo(), house.deeds], [2, "all", "all", 0])

    def test_rows_that_change_later(self):
        house, rows = House(TWOS, 1, 0, 4), [("ann", Stay(0, 2))]
        house.sell_all(rows)
        rows.append(("bo", Stay(2, 4)))
        self.same(house.names, ("ann",))


class ChangeTest(Houses, unittest.TestCase):
    def opened(self):
        house = House(SHORT, 1, 0, 8)
        house.sell_all([("cy", Stay(0, 2)), ("bo", Stay(5, 8))])
        return house

    def test_the_name_keeps_its_place(self):
        house = self.opened()
        self.same([house.change(name="cy", stay=Stay(0, 3)), house.names], [None, ("cy", "bo")])
        self.same([str(house["cy"]), house.deeds, house.undo(), str(house["cy"]), house.names],
                  ["0+3", 2, "change", "0+2", ("cy", "bo")])

    def test_without_the_old_stay(self):
        house = self.opened()
        house.change("cy", Stay(0, 2))
        self.same([house.deeds, house.undo()], [2, "change"])
        house.change("cy", Stay(2, 5))
        self.same(str(house["cy"]), "2+3")
        self.refused(Full, {"night": 5}, house.change, "cy", Stay(4, 6))

    def test_errors(self):
        house = self.opened()
        for value in VALUES + ["zz", "Ann"]:
            self.refused(NoGuest, {"name": value}, house.change, value, value)
            self.refused(NoGuest, {"name": value}, house.cancel, value)
            self.refused(NoGuest, {"name": value}, house.__getitem__, value)
            self.same(value in house, False)
        for value in none_of(Stay):
            self.refused(BadStay, {"part": "stay"}, house.change, "cy", value)
        self.refused(Outside, {"stay": Stay(7, 9)}, house.change, "cy", Stay(7, 9))
        self.refused(NotLet, {"stay": Stay(4, 8)}, house.change, "cy", Stay(4, 8))
        self.refused(Full, {"night": 5}, house.change, "cy", Stay(4, 6))
        would = house.calendar_now()
        would.drop("cy")
        would["cy"] = Stay(1, 3)
        self.dead(would, SHORT, house.change, "cy", Stay(1, 3))
        self.same([house.deeds, house.names, str(house["cy"])], [1, ("cy", "bo"), "0+2"])

    def test_cancel(self):
        house = self.opened()
        stay = house["cy"]
        self.assertIs(house.cancel("cy"), stay)
        self.same([house.names, house.deeds, "cy" in house], [("bo",), 2, False])
        house["al"] = Stay(0, 2)
        house["cy"] = Stay(2, 5)
        self.same(house.names, ("bo", "al", "cy"))
        house.cancel(name="al")
        self.same([house.undo(), house.names, house.undo(), house.undo(), house.undo(), house.names],
                  ["cancel", ("bo", "al", "cy"), "sell", "sell", "cancel", ("cy", "bo")])


class BookAndRoomsTest(Houses, unittest.TestCase):
    def test_two_ways(self):
        for way in [0, 1]:
            house = House(SHORT, 1, 0, 6)
            house["ann"] = Stay(0, 3)
            if way == 0:
                house.book = THREES
                house.rooms = 2
            else:
                self.same([house.set_book(book=THREES), house.set_rooms(rooms=2)], [None, None])
            self.same([house.book == THREES, house.rooms, house.calendar_now().free_rooms],
                      [True, 2, (1, 1, 1, 2, 2, 2)])
            self.same([house.undo(), house.rooms, house.undo(), house.book == SHORT, house.deeds],
                      ["rooms", 1, "book", True, 1])

    def set_book(self, house, book):
        house.book = book

    def set_rooms(self, house, rooms):
        house.rooms = rooms

    def test_wrong_books(self):
        house = House(SHORT, 1, 0, 6)
        for work in [self.set_book, House.set_book]:
            for value in none_of(Book):
                self.refused(BadBook, {"part": "book"}, work, house, value)
            self.dead(house.calendar_now(), Book.none(), work, house, Book.none())
            self.dead(house.calendar_now(), Book(Lasts(Lengths.of(4))), work, house, Book(Lasts(Lengths.of(4))))

    def test_loose(self):
        for work in [self.set_book, House.set_book]:
            house = House(SHORT, 3, 0, 6)
            house.sell_all([("zo", Stay(0, 3)), ("cy", Stay(0, 2)), ("bo", Stay(3, 6)), ("al", Stay(2, 4))])
            for book, name in [(TWOS, "bo"), (THREES, "al"), (Book.none(), "al"),
                               (Book.by_days(Lengths.of(2, 3), Lengths.of(2, 3), Lengths.of(2, 3), Lengths.of(2)),
                                "bo"),
                               (Book.by_days(Lengths.of(3), Lengths.none()), "al")]:
                with self.assertRaises(Loose) as caught:
                    work(house, book)
                self.same(caught.exception.name, name)
                self.assertIs(type(caught.exception.__cause__), Dead)
                stay = house[name]
                self.is_bar(Calendar(1, stay.first, stay.after), book, caught.exception.__cause__.bar)
            # A row of let stays is enough.
            work(house, ONES)
            self.same([house.book == ONES, house.deeds], [True, 2])

    def test_known_loose(self):
        house = House(SHORT, 1, 0, 5)
        house["ann"] = Stay(0, 3)
        self.refused(Loose, {"name": "ann"}, house.set_book, TWOS)

    def test_dead_behind_loose(self):
        house = House(SHORT, 2, 0, 5)
        house.sell_all([("ann", Stay(0, 2))])
        self.dead(house.calendar_now(), TWOS, house.set_book, TWOS)

    def test_rooms(self):
        house = House(SHORT, 2, 0, 6)
        house.sell_all([("ann", Stay(0, 3)), ("bo", Stay(2, 4))])
        for work in [self.set_rooms, House.set_rooms]:
            for value in VALUES + [0, 13]:
                if not (type(value) is int and 1 <= value <= 12):
                    self.refused(BadCalendar, {"part": "rooms"}, work, house, value)
            self.refused(Full, {"night": 2}, work, house, 1)
            for rooms in [3, 12, 2]:
                work(house, rooms)
                self.same(house.rooms, rooms)
        self.same(house.deeds, 7)

    def test_rooms_that_are_dead(self):
        # Two guests who have room in one room, but the night between them would be left alone.
        house = House(SHORT, 2, 0, 5)
        house.sell_all([("ann", Stay(0, 2)), ("bo", Stay(3, 5))])
        alone = house.calendar_now().with_rooms(1)
        for work in [self.set_rooms, House.set_rooms]:
            self.dead(alone, SHORT, work, house, 1)
            self.same([house.rooms, house.deeds], [2, 1])

    def test_a_house_stays_sellable(self):
        for parts in shuffled(133, 40, empty):
            source = shuffled(str(parts), 1, lambda source: source)[0]
            model, house = Model(*parts), House(*parts)
            for _ in range(12):
                word, arguments = some_deed(source, model)
                self.same_outcome(model, house, word, *arguments)
                self.same(is_sellable(house.calendar_now(), house.book), True)
                self.same(is_sellable(Calendar(house.rooms, house.first, house.after), house.book), True)


class NowTest(Houses, unittest.TestCase):
    def test_calendar_now(self):
        house = House(TWOS, 2, 0, 4)
        house.sell_all([("bo", Stay(0, 2)), ("ann", Stay(0, 2))])
        calendar = house.calendar_now()
        self.same([type(calendar) is Calendar, calendar.names, calendar.rooms], [True, ("bo", "ann"), 2])
        calendar.drop("bo")
        calendar["cy"] = Stay(1, 4)
        self.same([house.names, house.calendar_now().names, "cy" in house], [("bo", "ann"), ("bo", "ann"), False])
        before = house.calendar_now()
        house.cancel("bo")
        self.same(before.names, ("bo", "ann"))

    def test_fill_now(self):
        house = House(TWOS, 2, 0, 4)
        house["bo"] = Stay(0, 2)
        self.assertEqual(house.fill_now(), Fill((Stay(0, 2), Stay(2, 4), Stay(2, 4))))

    def test_undo(self):
        house = House(TWOS, 1, 0, 4)
        self.refused(NoDeed, {}, house.undo)
        house["ann"] = Stay(0, 2)
        house.rooms = 1
        house.book = TWOS
        house.change("ann", Stay(0, 2))
        house.sell_all([("bo", Stay(2, 4))])
        house.cancel("ann")
        self.same(house.deeds, 6)
        words = [house.undo() for _ in range(6)]
        self.same([words, house.deeds], [["cancel", "all", "change", "book", "rooms", "sell"], 0])
        self.refused(NoDeed, {}, house.undo)

    def test_what_is_refused_is_no_deed(self):
        house = House(TWOS, 1, 0, 4)
        for work in [lambda: house.sell("ann", Stay(1, 3)), lambda: house.cancel("ann"), lambda: house.set_rooms(0),
                     lambda: house.set_book(THREES), lambda: house.sell_all(None), lambda: house.change("ann", None)]:
            with self.assertRaises(ValueError):
                work()
            self.same([house.deeds, house.names], [0, ()])

    def test_properties_without_a_setter(self):
        house = House(TWOS, 1, 0, 4)
        for name in ["names", "deeds"]:
            with self.assertRaises(AttributeError):
                setattr(house, name, 1)


class TrialTest(Houses, unittest.TestCase):
    def told(self):
        house = House(SHORT, 2, 0, 6)
        house.sell_all([("bo", Stay(0, 2)), ("ann", Stay(0, 3))])
        house.rooms = 3
        return house

    def all_deeds(self, house):
        house["cy"] = Stay(3, 6)
        house.cancel("bo")
        house.change("ann", Stay(0, 2))
        house.book = Book(Lasts(Lengths.since(2)))
        house.rooms = 4
        house.sell_all([])

    def is_as_told(self, house):
        self.same(house == self.told(), True)
        self.same([house.names, house.deeds], [("bo", "ann"), 2])
        self.same([house.undo(), house.undo(), house.deeds, house.names], ["rooms", "all", 0, ()])

    def test_trial(self):
        house = self.told()
        with house.trial() as same:
            self.assertIs(same, house)
            self.all_deeds(same)
            self.same([house.deeds, house.names], [8, ("ann", "cy")])
        self.is_as_told(house)

    def test_undo_in_a_trial(self):
        house = self.told()
        with house.trial():
            house.undo()
            house.undo()
            house["zo"] = Stay(0, 3)
            self.same([house.deeds, house.rooms], [1, 2])
        self.is_as_told(house)

    def test_left_by_an_error(self):
        house = self.told()
        for error in [KeyError, NoDeed, ZeroDivisionError]:
            with self.assertRaises(error):
                with house.trial() as same:
                    self.all_deeds(same)
                    raise error()
        with self.assertRaises(Taken):
            with house.trial():
                self.all_deeds(house)
                house["cy"] = Stay(0, 2)
        self.is_as_told(house)

    def test_nested(self):
        house = self.told()
        with house.trial():
            house["cy"] = Stay(3, 6)
            with house.trial():
                house.cancel("cy")
                house.cancel("bo")
                with house.trial():
                    house.undo()
                self.same([house.names, house.deeds], [("ann",), 5])
            self.same([house.names, house.deeds], [("bo", "ann", "cy"), 3])
        self.is_as_told(house)

    def test_tried(self):
        house = self.told()
        self.same(house.tried(lambda same: [self.all_deeds(same), same is house, same.deeds]), [None, True, 8])
        self.same(house.tried(work=House.undo), "rooms")
        with self.assertRaises(NoGuest):
            house.tried(lambda same: same.cancel("zz"))
        self.is_as_told(house)

    def test_twin(self):
        house = self.told()
        twin = house.twin()
        self.same([twin == house, twin is house, twin.names, twin.deeds], [True, False, ("bo", "ann"), 0])
        self.refused(NoDeed, {}, twin.undo)
        self.all_deeds(twin)
        self.is_as_told(house)
        other = self.told()
        copy = other.twin()
        self.all_deeds(other)
        self.same([copy == self.told(), copy.deeds], [True, 0])

    def test_equal(self):
        house = self.told()
        self.same([house == self.told(), house != self.told()], [True, False])
        ways = [lambda h: h.cancel("bo"), lambda h: h.set_rooms(4), lambda h: h.set_book(Book(Lasts(Lengths.since(2)))),
                lambda h: h.change("bo", Stay(0, 3)), lambda h: h.sell("cy", Stay(0, 2))]
        for way in ways:
            other = self.told()
            way(other)
            self.same([house == other, other == house, house != other], [False, False, True])
            other.undo()
            self.same(house == other, True)
        turned = House(SHORT, 3, 0, 6)
        turned.sell_all([("ann", Stay(0, 3)), ("bo", Stay(0, 2))])
        self.same([turned == house, turned.names == house.names], [True, False])
        self.same(House(TWOS, 1, 0, 4) == House(TWOS, 1, 2, 6), False)
        self.alone(house, VALUES + [house.calendar_now()])

    def test_iterating(self):
        house = self.told()
        self.same([list(house), len(house), [name for name in house], "bo" in house, "zz" in house, str(house["bo"])],
                  [["bo", "ann"], 2, ["bo", "ann"], True, False, "0+2"])


class TimeTest(Houses, unittest.TestCase):
    def test_greatest(self):
        begin = time.perf_counter()
        for book in [ONES, Book.every(), SHORT]:
            house = House(book, 12, 0, 40)
            number = 0
            offers = list(house.offers())
            while offers:
                house[name_of(number)] = offers[number * 7919 % len(offers)]
                number += 1
                offers = list(house.offers())
            self.assertGreater(len(house), 40)
            self.is_fill(house.calendar_now(), book, house.fill_now().stays)
        self.assertLess(time.perf_counter() - begin, 120)


if __name__ == "__main__":
    unittest.main()
