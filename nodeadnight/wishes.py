"""Wishes: let stays with a worth, and the lots of them that can be taken."""

from nodeadnight.basics import is_from
from nodeadnight.errors import BadWish, TooMany
from nodeadnight.fills import Paper, arcs_of, check_both, heights_of, stays_of, supplies_of, whole_flow
from nodeadnight.flows import Flow

MOST_WISHES = 8
MOST_STAYS = 100
MOST_WORTH = 1000000000


class Lot(Paper):
    """A best lot of wishes, a fill of what is left, and heights that show that no lot is worth more."""

    def __init__(self, taken, stays, heights, worth):
        self.taken = taken
        self.stays = stays
        self.heights = heights
        self.worth = worth

    def __eq__(self, other):
        return (isinstance(other, Lot) and self.taken == other.taken and self.stays == other.stays
                and self.heights == other.heights and self.worth == other.worth)


def best_lot(calendar, book, wishes):
    """The Lot of the greatest worth."""
    flow, marks = lot_flow(calendar, book, wishes)
    taken = [at for at, mark in enumerate(marks) if flow.carried[mark] > 0]
    # The flow is of the least cost, so its heights climb downwards.
    heights = heights_of(calendar, [-height for height in flow.heights[:calendar.after - calendar.first + 1]])
    return Lot(tuple(taken), stays_of(calendar, book, flow), heights, sum([wishes[at][1] for at in taken]))


def fates(calendar, book, wishes):
    """For each wish a word: whether it is in all best lots, in some of them or in none."""
    flow, marks = lot_flow(calendar, book, wishes)
    return [fate_of(flow, mark) for mark in marks]


def can_take(calendar, book, stays):
    """Whether several let stays can be sold together, with the rest sellable."""
    check_both(calendar, book)
    if not isinstance(stays, (list, tuple)):
        raise BadWish(None)
    if len(stays) > MOST_STAYS:
        raise TooMany("stays", MOST_STAYS)
    for at, stay in enumerate(stays):
        if not is_let_within(calendar, book, stay):
            raise BadWish(at)
    left = left_free(calendar, stays)
    if min(left, key=int) < 0:
        return False
    return not Flow(supplies_of(left), arcs_of(calendar, book, 0), [0 for _ in range(len(left) + 1)]).run()


def check_wishes(calendar, book, wishes):
    """Refuses any value that is no list or tuple of wishes, and too many of them."""
    if not isinstance(wishes, (list, tuple)):
        raise BadWish(None)
    if len(wishes) > MOST_WISHES:
        raise TooMany("wishes", MOST_WISHES)
    for at, wish in enumerate(wishes):
        if not isinstance(wish, tuple) or len(wish) != 2 or not is_let_within(calendar, book, wish[0]):
            raise BadWish(at)
        if not is_from(wish[1], 0, MOST_WORTH):
            raise BadWish(at)


def is_let_within(calendar, book, value):
    """Whether any value is a let stay within the days of a calendar."""
    return value in book and calendar.first <= value.first and value.after <= calendar.after


def left_free(calendar, stays):
    """How many rooms are free, night by night, behind the sale of stays; below 0 where there are too many."""
    left = list(calendar.free_rooms)
    for stay in stays:
        for night in stay:
            left[night - calendar.first] = left[night - calendar.first] - 1
    return left


def lot_flow(calendar, book, wishes):
    """The flow of a best lot, and for each wish the number of the arc that carries something if it is taken.

    Each wish has a place of its own, which takes one: from the first day of the stay, which is worth something, or
    from its after, to which one more is supplied. So at most one can be led by a wish from its first day to its after.
    """
    check_both(calendar, book)
    check_wishes(calendar, book, wishes)
    whole_flow(calendar, book, 0)
    supplies, arcs = supplies_of(calendar.free_rooms), arcs_of(calendar, book, 0)
    heights, marks = [0 for _ in supplies], []
    for stay, worth in wishes:
        place, after = len(supplies), stay.after - calendar.first
        supplies.append(-1)
        supplies[after] = supplies[after] + 1
        heights.append(-worth)
        marks.append(len(arcs))
        arcs.extend([(stay.first - calendar.first, place, -worth), (after, place, 0)])
    flow = Flow(supplies, arcs, heights)
    flow.run()
    return flow, marks


def fate_of(flow, mark):
    """The word for the wish with this arc, behind which stands the one that carries something if it is not taken."""
    taken = flow.carried[mark] > 0
    begin, end = flow.arcs[mark][0], flow.arcs[mark + 1][0]
    # Another best lot comes of a way around on which no step costs anything beyond its climb.
    if taken and flow.beyond(mark + 1) == 0 and end in flow.reached(begin):
        return "some"
    if not taken and flow.beyond(mark) == 0 and begin in flow.reached(end):
        return "some"
    return "all" if taken else "none"
