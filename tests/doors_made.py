"""Doors and books to judge, and what comes of sales, tried one by one by the words of the document alone."""

from nodeadnight.books import Book
from nodeadnight.days import Days
from nodeadnight.doors import Ahead, All, Behind, Lets, No, Some, Weakest
from nodeadnight.lengths import Lengths
from nodeadnight.rules import Comes, Goes, Holds, Lasts, Within
from nodeadnight.stays import Stay
from nodeadnight.stretches import Stretch
from rows import filled_from

NUMBERS = [Lengths.none(), Lengths.every(), Lengths.of(0), Lengths.of(0, 2), Lengths.since(2), Lengths.since(1),
           Lengths.of(0) | Lengths.since(3), Lengths.steps(0, 2), Lengths.steps(1, 2)]
RULES = [Comes(Days.on(2, 0)), Goes(Days.on(2, 1)), ~Holds(Days.on(2, 1)), Within(Days.on(2, 0)),
         Lasts(Lengths.of(2)), Lasts(Lengths.since(3)), Comes(Days.on(2, 1)) | Lasts(Lengths.steps(2, 2))]


def some_small_book(source):
    """A book of one or two days of a round with few short stays."""
    rows = []
    for _ in range(source.choice([1, 1, 2])):
        row = Lengths.of(*source.sample(range(1, 5), source.choice([0, 1, 1, 2])))
        rows.append(row | source.choice([Lengths.none(), Lengths.none(), Lengths.since(3), Lengths.steps(2, 2)]))
    return Book.by_days(*rows)


def some_door(source, book, deep=2):
    """A door of several ones, now and then with the weakest one for this book or for another."""
    word = source.choice(["ahead", "behind", "lets", "weakest", "all", "some", "no", "all"][:8 if deep else 4])
    if word == "ahead":
        return Ahead(source.choice(NUMBERS))
    if word == "behind":
        return Behind(source.choice(NUMBERS), source.random() < 0.5)
    if word == "lets":
        return Lets(source.choice(RULES))
    if word == "weakest":
        return Weakest(book if source.random() < 0.6 else some_small_book(source))
    if word == "no":
        return No(some_door(source, book, deep - 1))
    parts = [some_door(source, book, deep - 1) for _ in range(source.choice([0, 1, 2, 2, 3]))]
    return All(*parts) if word == "all" else Some(*parts)


def sales_of(door, book, day, nights):
    """The stays that a door sells in a finite stretch."""
    stays = [Stay(first, after) for first in range(day, day + nights) for after in range(first + 1, day + nights + 1)]
    return [stay for stay in stays if stay in book and door(Stretch(day, nights), stay)]


class Live:
    """Which finite stretches are live for a book, up to a number of nights."""

    def __init__(self, book, most):
        self.marks = [filled_from(book, day, most) for day in range(book.round)]

    def __call__(self, day, nights):
        return self.marks[day % len(self.marks)][nights]


def parts_of(stay, day, nights):
    return [(day, stay.first - day), (stay.after, day + nights - stay.after)]


def walk(door, book, day, nights):
    """All stretches that sales alone lead to, each with the fewest sales; by day and nights."""
    came, waiting = {(day, nights): 0}, [(day, nights)]
    while waiting:
        place = waiting.pop(0)
        for stay in sales_of(door, book, *place):
            for part in parts_of(stay, *place):
                if part[1] > 0 and part not in came:
                    came[part] = came[place] + 1
                    waiting.append(part)
    return came
