"""How the numbers of nights that rows of let stays fill come round."""

from nodeadnight.basics import least_period
from nodeadnight.books import greatest_start, whole_period
from nodeadnight.errors import TooMany
from nodeadnight.lengths import Lengths, check_size

MOST_SIZE = 60


def check_book_size(book):
    """Refuses a book whose rows may come round too late to look for it."""
    if book.size > MOST_SIZE:
        raise TooMany("size", MOST_SIZE)


def walked(book, day):
    """For each number of nights from a day on, whether one let stay has it and whether a row of more stays fills it.

    Both lists come round from a number on, the third value, by what stands there from this number on.
    """
    start, turn = greatest_start(book), whole_period(book)
    rows = [book.lengths_on((day + k) % turn) for k in range(turn)]
    near, far = near_marks(rows, start), far_marks(rows, start)
    alone, together, seen = [False], [False], {}
    # What begins on the first day is told by alone. So recent has a bit for each of the last numbers up to start, the
    # latest one lowest, that was filled; distant has one for each rest modulo turn that an earlier one leaves.
    recent = distant = 0
    while True:
        n = len(alone)
        state = (n % turn, recent, distant)
        if n > start:
            if state in seen:
                return alone, together, seen[state]
            seen[state] = n
        alone.append(n in rows[0])
        together.append((recent & near[n % turn]) > 0 or (distant & far[n % turn]) > 0)
        recent = recent * 2 + int(alone[n] or together[n])
        if recent >> start > 0:
            recent = recent - (1 << start)
            distant = distant | (1 << ((n - start) % turn))


def near_marks(rows, start):
    """For each rest of a number of nights, the last numbers up to start ahead of it from which a stay leads to it."""
    turn = len(rows)
    return [sum([1 << (k - 1) for k in range(1, start + 1) if k in rows[(rest - k) % turn]]) for rest in range(turn)]


def far_marks(rows, start):
    """For each rest of a number of nights, the rests of numbers further ahead from which a stay leads to it."""
    turn = len(rows)
    least = start + 1
    return [sum([1 << k for k in range(turn) if least + (rest - k - least) % turn in rows[k]]) for rest in range(turn)]


def lengths_of(marks, begin):
    """The Lengths of the marked numbers, which come round from begin on by the marks from there on."""
    turn = least_period(marks[begin:])
    while begin > 0 and marks[begin - 1] == marks[begin - 1 + turn]:
        begin = begin - 1
    check_size(begin, turn)
    low = [n for n in range(begin) if marks[n]]
    return Lengths(begin, low, turn, [n % turn for n in range(begin, begin + turn) if marks[n]])


def filled(walk):
    """The Lengths of the numbers of nights that rows fill, by what walked tells."""
    alone, together, begin = walk
    return lengths_of([n == 0 or alone[n] or together[n] for n in range(len(alone))], begin)


def primes_alone(walk):
    """The Lengths of the numbers of nights of the primes, by what walked tells."""
    alone, together, begin = walk
    return lengths_of([alone[n] and not together[n] for n in range(len(alone))], begin)
