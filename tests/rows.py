"""Rows of let stays, worked out by the words of the document alone, and books to try them with."""

from nodeadnight.books import Book
from nodeadnight.errors import TooMany
from nodeadnight.lengths import Lengths


def filled_from(book, day, most):
    """For each number of nights up to most, whether a row of let stays fills them."""
    members = [sum(1 << n for n in range(1, most + 1) if book.lets(d, n)) for d in range(book.round)]
    filled = 1
    for at in range(most):
        if filled >> at & 1:
            filled |= members[(day + at) % book.round] << at
    return [filled >> n & 1 == 1 for n in range(most + 1)]


def least_form(marks):
    """The least form of what the marks tell, as far as they go: start, period; None if it is beyond 400."""
    for period in range(1, 401):
        if marks[400:-period] == marks[400 + period:]:
            start = 400
            while start > 0 and marks[start - 1] == marks[start - 1 + period]:
                start -= 1
            return (start, period) if start + period <= 400 else None
    return None


def some_book(source, most_size=60):
    """A book of one to seven days of a round, not greater than a size."""
    while True:
        turn = source.choice([1, 1, 2, 3, 4, 5, 6, 7])
        period = source.choice([1, 1, 2, turn, 2 * turn])
        rows = []
        for _ in range(turn):
            start = source.randrange(1, source.choice([4, 9, 30]))
            low = [n for n in range(1, start) if source.random() < 3 / (start + 2)]
            rests = [n for n in range(period) if source.random() < 0.2]
            rows.append(Lengths(start, low, period, rests))
        try:
            book = Book.by_days(*rows)
        except TooMany:
            continue
        if book.size <= most_size:
            return book
