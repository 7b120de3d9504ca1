"""Primes of books: the stays that a book needs; and which books cover which."""

from nodeadnight.books import Book, check_book, check_round, common_period
from nodeadnight.steady import check_book_size, filled, primes_alone, walked


def primes(book):
    """The book of the primes of a book."""
    check_book(book, "book")
    check_book_size(book)
    walks = [walked(book, day) for day in range(book.round)]
    # Asked first: what fillable refuses, primes refuses.
    for walk in walks:
        filled(walk)
    rows = [primes_alone(walk) for walk in walks]
    return Book.by_days(*rows)


def missing(one, other):
    """A stay that the other book lets and no row of one has, as day and nights: the least; None if there is none."""
    check_book(one, "one")
    check_book(other, "other")
    check_book_size(one)
    check_book_size(other)
    rows = [filled(walked(one, day)) for day in range(one.round)]
    turn = common_period([one.round, other.round])
    check_round(turn)
    found = None
    for day in range(turn):
        nights = least_outside(other.lengths_on(day), rows[day % one.round])
        if nights is not None and (found is None or nights < found[1]):
            found = (day, nights)
    return found


def alike(one, other):
    """Whether each of two books covers the other one."""
    lost, gained = missing(one, other), missing(other, one)
    return lost is None and gained is None


def least_outside(lengths, others):
    """The least member of a Lengths that is none of another one; None if there is none."""
    if lengths <= others:
        return None
    nights = lengths.least
    while nights in others:
        nights = lengths.at_least(nights + 1)
    return nights
