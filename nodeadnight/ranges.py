"""Numbers of rooms: with how many of them the guests have room and the rest is sellable."""

from nodeadnight.fills import Paper, arcs_of, check_both, days_of, stays_of, supplies_of
from nodeadnight.flows import Flow
from nodeadnight.stretches import row_of

# More rooms than what the stays of all guests can make up for.
FAR = 1000


class Rooms(Paper):
    """The least and the greatest number of rooms that does, and what shows it."""

    def __init__(self, fewest, most, lower, upper, filled):
        self.fewest = fewest
        self.most = most
        self.lower = lower
        self.upper = upper
        self.filled = filled

    def __eq__(self, other):
        return (isinstance(other, Rooms) and self.fewest == other.fewest and self.most == other.most
                and self.lower == other.lower and self.upper == other.upper and self.filled == other.filled)


class NoRooms(Paper):
    """Closed sets of days that show that no number of rooms does."""

    def __init__(self, lower, upper, both):
        self.lower = lower
        self.upper = upper
        self.both = both

    def __eq__(self, other):
        return (isinstance(other, NoRooms) and self.lower == other.lower and self.upper == other.upper
                and self.both == other.both)


def rooms_for(calendar, book):
    """The Rooms for the guests of a calendar, or a NoRooms."""
    check_both(calendar, book)
    lower = stuck_days(calendar, book, -FAR)
    fewest = max(1, number_of(calendar, lower))
    if fewest == 1:
        lower = None
    upper, most = row_of(book, calendar.first, calendar.after - calendar.first), None
    if upper is None:
        upper = stuck_days(calendar, book, FAR)
        most = -number_of(calendar, upper)
        if most < fewest:
            return NoRooms(lower, upper, None)
    # With this number no closed set that has just one of the first day and the after has a supply above 0.
    both = stuck_days(calendar, book, fewest)
    if both:
        return NoRooms(None, None, both)
    numbers = [fewest] if most is None or most == fewest else [fewest, most]
    return Rooms(fewest, most, lower, upper, tuple([filled_with(calendar, book, rooms) for rooms in numbers]))


def number_of(calendar, days):
    """The number of a set of days: how many stays of guests end on them, less those that begin there."""
    return sum([int(stay.after in days) - int(stay.first in days) for _, stay in calendar.guests()])


def flow_with(calendar, book, rooms):
    """What let stays carry if the calendar had so many rooms, also less than none."""
    free = [rooms - calendar.rooms + many for many in calendar.free_rooms]
    return Flow(supplies_of(free), arcs_of(calendar, book, 0), [0 for _ in range(len(free) + 1)])


def stuck_days(calendar, book, rooms):
    """The closed set of days with the greatest supply for a number of rooms, without days if there is none above 0."""
    return days_of(calendar, flow_with(calendar, book, rooms).run())


def filled_with(calendar, book, rooms):
    """A fill of the calendar with a number of rooms that does."""
    flow = flow_with(calendar, book, rooms)
    flow.run()
    return stays_of(calendar, book, flow)
