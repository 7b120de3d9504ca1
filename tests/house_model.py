"""A second house, written by the words of the document alone: rows of names and stays, and all fills tried by hand."""

from nodeadnight.books import Book
from nodeadnight.calendars import Calendar
from nodeadnight.days import Days
from nodeadnight.errors import (
    BadName, BadRow, BadStay, Dead, Full, Loose, NoDeed, NoGuest, NotLet, Outside, StayError, Taken, TooMany,
)
from nodeadnight.fills import is_sellable
from nodeadnight.lengths import Lengths
from nodeadnight.rules import Comes, Lasts
from nodeadnight.stays import Stay
from papers import is_filled_by_hand
from values import LAST, fields_of


ONES = Book(Lasts(Lengths.of(1)))
TWOS = Book(Lasts(Lengths.of(2)))
THREES = Book(Lasts(Lengths.of(3)))
SHORT = Book(Lasts(Lengths.of(2, 3)))

NAMES = ["ann", "bo", "cy", "al", "zzzzzzzz"]
BOOKS = [ONES, TWOS, THREES, SHORT, Book.every(), Book.none(), Book(Lasts(Lengths.of(1, 3))),
         Book(Lasts(Lengths.since(2))), Book(Comes(Days.on(2, 0))), Book(Lasts(Lengths.of(2, 4))),
         Book.by_days(Lengths.of(1, 2), Lengths.of(3), Lengths.of(2)), Book.by_days(Lengths.of(2, 4), Lengths.of(2))]


def empty(source):
    """The parts of an empty house of one to three rooms and up to seven nights that is sellable."""
    while True:
        first = source.choice([0, 2, -7, LAST - 7, -LAST])
        parts = source.choice(BOOKS), source.randint(1, 3), first, first + source.choice([1, 2, 3, 4, 5, 6, 6, 7, 7, 7])
        if is_sellable(Calendar(*parts[1:]), parts[0]):
            return parts


def some_stay(source, model, wide=1):
    let = list(model.book.let_stays(model.first, model.after))
    if source.random() < 0.7:
        return source.choice(let)
    first = source.randint(max(-LAST, model.first - wide), model.after)
    after = min(LAST, first + source.choice([1, 2, 2, 2, 3, 3, 4]))
    return Stay(first, after) if first < after else Stay(model.first, model.first + 1)


def some_deed(source, model):
    """The word of a deed, and its arguments."""
    word = source.choice(["sell"] * 8 + ["sell_all"] * 2 + ["change"] * 5 + ["cancel"] * 2 + ["set_book"] * 2
                         + ["set_rooms"] * 3 + ["undo"] * 2)
    if word == "sell_all":
        rows = [(source.choice(NAMES), some_stay(source, model, 0)) for _ in range(source.choice([0, 1, 2, 2, 3]))]
        return word, [source.choice([list, tuple])(rows)]
    if word == "set_book":
        return word, [source.choice(BOOKS)]
    if word == "set_rooms":
        return word, [source.choice([1, 1, 2, 2, 3, 4])]
    if word == "undo":
        return word, []
    there = [name for name, _ in model.rows]
    name = source.choice(there if there and source.random() < 0.5 else NAMES)
    return word, [name] if word == "cancel" else [name, some_stay(source, model)]


class Wrong(Exception):
    """What is raised: the class of the error and its fields; of a Dead the calendar that has no fill."""

    def __init__(self, kind, *fields):
        self.kind = kind
        self.fields = fields


def is_named(value):
    return type(value) is str and 1 <= len(value) <= 8 and all("a" <= sign <= "z" for sign in value)


class Model:
    def __init__(self, book, rooms, first, after):
        self.book, self.rooms, self.first, self.after = book, rooms, first, after
        self.rows, self.past = [], []

    def twin(self):
        model = Model(self.book, self.rooms, self.first, self.after)
        model.rows = list(self.rows)
        return model

    def calendar(self, rows, rooms=None):
        calendar = Calendar(rooms or self.rooms, self.first, self.after)
        for name, stay in rows:
            calendar[name] = stay
        return calendar

    def free(self, rows, rooms=None):
        return [(rooms or self.rooms) - sum(night in stay for _, stay in rows)
                for night in range(self.first, self.after)]

    def is_filled(self, rows, book=None, rooms=None):
        book = self.book if book is None else book
        spans = tuple((first, after) for first in range(self.after - self.first)
                      for after in range(first + 1, self.after - self.first + 1)
                      if book.lets(self.first + first, after - first))
        return is_filled_by_hand(self.free(rows, rooms), spans)

    def check_stay(self, rows, stay):
        """What is refused of a stay beside other ones, but for the name, the number of guests and the fill."""
        if not isinstance(stay, Stay):
            raise Wrong(BadStay, "stay")
        if stay.first < self.first or stay.after > self.after:
            raise Wrong(Outside, stay)
        if not self.book.lets(stay.first, len(stay)):
            raise Wrong(NotLet, stay)
        free = self.free(rows)
        for night in range(stay.first, stay.after):
            if free[night - self.first] == 0:
                raise Wrong(Full, night)

    def check_filled(self, rows, book=None, rooms=None):
        if not self.is_filled(rows, book, rooms):
            raise Wrong(Dead, self.calendar(rows, rooms), self.book if book is None else book)

    def with_sale(self, rows, name, stay):
        if not is_named(name):
            raise Wrong(BadName, name)
        if name in dict(rows):
            raise Wrong(Taken, name)
        self.check_stay(rows, stay)
        if len(rows) >= 100:
            raise Wrong(TooMany, "guests", 100)
        self.check_filled(rows + [(name, stay)])
        return rows + [(name, stay)]

    def note(self, word, rows):
        self.past.append((word, self.rows, self.book, self.rooms))
        self.rows = rows

    def sell(self, name, stay):
        self.note("sell", self.with_sale(self.rows, name, stay))

    def sell_all(self, told):
        if type(told) not in (list, tuple):
            raise Wrong(BadRow, None)
        for at, row in enumerate(told):
            if type(row) is not tuple or len(row) != 2:
                raise Wrong(BadRow, at)
        rows = self.rows
        for name, stay in told:
            rows = self.with_sale(rows, name, stay)
        self.note("all", rows)

    def check_guest(self, name):
        if type(name) is not str or name not in dict(self.rows):
            raise Wrong(NoGuest, name)

    def cancel(self, name):
        self.check_guest(name)
        stay = dict(self.rows)[name]
        self.note("cancel", [row for row in self.rows if row[0] != name])
        return stay

    def change(self, name, stay):
        self.check_guest(name)
        self.check_stay([row for row in self.rows if row[0] != name], stay)
        rows = [(name, stay) if row[0] == name else row for row in self.rows]
        self.check_filled(rows)
        self.note("change", rows)

    def is_row(self, book, stay):
        """Whether a stay is a row of stays that a book lets."""
        ends = {stay.first}
        for day in range(stay.first, stay.after):
            if day in ends:
                ends |= {day + nights for nights in range(1, stay.after - day + 1) if book.lets(day, nights)}
        return stay.after in ends

    def set_book(self, book):
        for name, stay in sorted(self.rows, key=lambda row: row[0]):
            if not self.is_row(book, stay):
                raise Wrong(Loose, name)
        self.check_filled(self.rows, book)
        self.note("book", self.rows)
        self.book = book

    def set_rooms(self, rooms):
        for night, free in zip(range(self.first, self.after), self.free(self.rows, rooms)):
            if free < 0:
                raise Wrong(Full, night)
        self.check_filled(self.rows, None, rooms)
        self.note("rooms", self.rows)
        self.rooms = rooms

    def undo(self):
        if not self.past:
            raise Wrong(NoDeed)
        word, self.rows, self.book, self.rooms = self.past.pop()
        return word

    def sells(self, stay):
        try:
            self.with_sale(self.rows, "zzzzzzzz", stay)
        except Wrong:
            return False
        return True


def outcome(work, *arguments):
    """What a call returns, or the class and the fields of what it raises."""
    try:
        return "done", work(*arguments)
    except Wrong as wrong:
        return wrong.kind, wrong.fields
    except StayError as error:
        return type(error), error


class Compared:
    """Mixed into a TestCase with the checks of papers."""

    def same_outcome(self, model, house, word, *arguments):
        """Checks that a deed comes to the same in a model and in a house; tells what came of it."""
        expected, answer = outcome(getattr(model, word), *arguments), outcome(getattr(house, word), *arguments)
        self.assertIs(answer[0], expected[0], (word, [str(each) for each in arguments]))
        if expected[0] == "done":
            self.same(answer[1], expected[1])
        elif expected[0] is Dead:
            calendar, book = expected[1]
            self.is_bar(calendar, book, answer[1].bar)
        else:
            names = [name for name in ["part", "value", "name", "stay", "night", "at", "what", "most"]
                     if hasattr(answer[1], name)]
            self.assertEqual(fields_of(answer[1], names), [(type(field), field) for field in expected[1]])
            if expected[0] is Loose:
                self.is_loose(model, expected[1][0], arguments[0], answer[1])
        self.same_house(model, house)
        return expected[0] if expected[0] != "done" else word

    def is_loose(self, model, name, book, error):
        stay = dict(model.rows)[name]
        self.assertIs(type(error.__cause__), Dead)
        self.is_bar(Calendar(1, stay.first, stay.after), book, error.__cause__.bar)

    def same_house(self, model, house):
        """Checks that all that a house tells is as in a model."""
        calendar = house.calendar_now()
        self.same([house.names, list(house), len(house), house.deeds, house.rooms, house.first, house.after],
                  [tuple(name for name, _ in model.rows), [name for name, _ in model.rows], len(model.rows),
                   len(model.past), model.rooms, model.first, model.after])
        self.same([house.book == model.book, all(house[name] == stay for name, stay in model.rows),
                   calendar == model.calendar(model.rows), calendar.names == house.names], [True] * 4)
        self.is_fill(calendar, house.book, house.fill_now().stays)
