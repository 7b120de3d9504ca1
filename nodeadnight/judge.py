"""Judges doors: which of two sells more, whether one is safe, and where its sales lead to."""

from nodeadnight.basics import is_day
from nodeadnight.books import check_book, check_round, common_period, leaves_of
from nodeadnight.doors import Ahead, All, Behind, Door, Lets, No, Some, Weakest
from nodeadnight.errors import BadDoor, BadStretch, TooMany
from nodeadnight.lengths import Lengths
from nodeadnight.rules import DayRule, LengthRule
from nodeadnight.sights import Ground, Sight, members_of
from nodeadnight.stays import Stay
from nodeadnight.stretches import Stretch, fillable

REACH = 36
MOST_NIGHTS = 30
# More than the nights of each stretch that a story tells of.
SCALE = 31


class Case:
    """A live stretch and a stay in it, by which two doors differ."""

    def __init__(self, stretch, stay):
        self.stretch = stretch
        self.stay = stay

    def __eq__(self, other):
        return isinstance(other, Case) and self.stretch == other.stretch and self.stay == other.stay


class Story:
    """The stays of sales that lead to a dead stretch."""

    def __init__(self, stays):
        self.stays = stays

    def __eq__(self, other):
        return isinstance(other, Story) and self.stays == other.stays


class Table:
    """Live stretches, from which sales lead to such ones alone."""

    def __init__(self, stretches):
        self.stretches = stretches

    def __eq__(self, other):
        return isinstance(other, Table) and self.stretches == other.stretches


def parted(one, other, book):
    """The first Case of a stay that one door sells in a live stretch and the other one does not; None without one."""
    check_door(one, "one")
    check_door(other, "other")
    check_book(book, "book")
    turn, begin, period = reach_of([one, other], book)
    return first_case(one, other, book, turn, begin + period)


def is_safe(door, book):
    """Whether a door never leaves a dead stretch of a live one."""
    check_door(door, "door")
    check_book(book, "book")
    turn, begin, period = reach_of([door], book)
    return first_case(door, Weakest(book), book, turn, begin + period) is None


def thumb(book):
    """The least number of nights such that it is safe to leave none or at least so many; None if none is."""
    check_book(book, "book")
    turn, begin, period = reach_of([], book)
    # What is sold with more nights is sold with fewer, too. So the least number is found by halves.
    low, high = 1, begin + 1
    while low < high:
        middle = (low + high) // 2
        rest = Lengths.of(0) | Lengths.since(middle)
        if first_case(Ahead(rest) & Behind(rest), Weakest(book), book, turn, begin + period) is None:
            high = middle
        else:
            low = middle + 1
    return low if low <= begin else None


def story(door, book, stretch):
    """A Story of the fewest sales that lead from a live stretch to a dead one; the Table of all, if none do."""
    check_door(door, "door")
    check_book(book, "book")
    reach_of([door], book)
    ground = check_stretch(book, stretch)
    sight = Sight(door, ground)
    start = (stretch.day, stretch.nights)
    links = {start: None}
    waiting, at = [start], 0
    while at < len(waiting):
        place = waiting[at]
        # A list of its own: the places that wait, of which this is one, are added to only when its sales are through.
        fresh = []
        for stay, left in sales_in(sight, place):
            for part in left:
                if part[1] > 0 and part not in links:
                    links[part] = (place, stay)
                    fresh.append(part)
                    if not ground.is_live_on(part[0], part[1]):
                        return Story(stays_to(part, links))
        waiting.extend(fresh)
        at = at + 1
    return table_of(waiting)


def check_door(value, part):
    """Refuses any value that is no door."""
    if not isinstance(value, Door):
        raise BadDoor(part)


def check_stretch(book, value):
    """Refuses any value that is no live finite stretch of a book, short enough; returns what the book fills in it."""
    if not isinstance(value, Stretch) or value.nights is None or value.nights > MOST_NIGHTS:
        raise BadStretch("stretch")
    ground = Ground(book, value.nights)
    if not is_day(value.day + value.nights) or not ground.is_live_on(value.day, value.nights):
        raise BadStretch("stretch")
    return ground


def doors_in(door):
    """The doors in a door that have no doors in them, from the left."""
    if isinstance(door, No):
        return doors_in(door.door)
    if isinstance(door, (All, Some)):
        found = []
        for each in door.doors:
            found.extend(doors_in(each))
        return found
    return [door]


def reach_of(doors, book):
    """By which days, from which number on and by which period all is alike that some doors and a book look at."""
    books, turns, sets = [book], [], []
    for each in doors:
        for door in doors_in(each):
            if isinstance(door, Weakest):
                books.append(door.book)
            elif isinstance(door, Lets):
                leaves = leaves_of(door.rule)
                turns.extend([leaf.days.period for leaf in leaves if isinstance(leaf, DayRule)])
                sets.extend([leaf.lengths for leaf in leaves if isinstance(leaf, LengthRule)])
            else:
                sets.append(door.lengths)
    for each in books:
        turns.append(each.round)
        sets.extend([each.lengths_on(day) for day in range(each.round)])
        sets.extend([fillable(each, day) for day in range(each.round)])
    turn = common_period(turns)
    check_round(turn)
    begin = max([turn] + [each.start for each in sets], key=int)
    period = common_period([turn] + [each.period for each in sets])
    if begin + period > REACH:
        raise TooMany("reach", REACH)
    return turn, begin, period


def first_case(one, other, book, turn, reach):
    """The first Case of a stay that one door sells and the other one does not, in a live stretch."""
    # Whether ahead of a stay, behind it or in it: as many nights as reach or more are alike to some fewer ones.
    ground = Ground(book, 3 * reach)
    told, refused = Sight(one, ground), Sight(other, ground)
    for nights in list(range(3 * reach)) + [None]:
        for day in range(turn):
            if ground.is_live_on(day, nights):
                gap, many = first_sale(told, refused, day, nights, reach)
                if many > 0:
                    return Case(Stretch(day, nights), Stay(day + gap, day + gap + many))
    return None


def first_sale(told, refused, day, nights, reach):
    """Of the first stay in a stretch that one sight sells and the other one does not, the nights ahead and its own.

    It has no nights if there is none.
    """
    for gap in range(reach if nights is None else min(int(nights), reach)):
        marks = told.sold_on(day, nights, gap) & ~refused.sold_on(day, nights, gap)
        if marks > 0:
            return gap, members_of(marks)[0]
    return 0, 0


def sales_in(sight, place):
    """Yields the stays that are sold in a stretch, each with the stretches that are left; these by day and nights."""
    day, nights = place
    for gap in range(nights):
        for many in members_of(sight.sold_on(day, nights, gap)):
            first = day + gap
            yield Stay(first, first + many), ((day, gap), (first + many, nights - gap - many))


def stays_to(place, links):
    """The stays of the sales that led to a stretch, the first one ahead."""
    stays = []
    while links[place] is not None:
        place, stay = links[place]
        stays.append(stay)
    return tuple(stays[::-1])


def table_of(places):
    """The Table of stretches, in order, without those of no nights."""
    base = places[0][0]
    order = sorted([int((day - base) * SCALE + nights) for day, nights in places if nights > 0])
    return Table(tuple([Stretch(base + number // SCALE, number % SCALE) for number in order]))
