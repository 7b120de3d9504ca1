"""Fills of calendars, bars that show that there is none, and heights that show how many stays there must be."""

from nodeadnight.books import check_book
from nodeadnight.calendars import Calendar
from nodeadnight.errors import BadCalendar, Dead
from nodeadnight.flows import Flow


class Paper:
    """The base of the papers, which come with answers; it is not made itself."""


class Fill(Paper):
    """Let stays that lie over each night just as often as a room is free."""

    def __init__(self, stays):
        self.stays = stays

    def __eq__(self, other):
        return isinstance(other, Fill) and self.stays == other.stays


class Bar(Paper):
    """Days that no let stay leads out of, with a supply above 0 together."""

    def __init__(self, days):
        self.days = days

    def __eq__(self, other):
        return isinstance(other, Bar) and self.days == other.days


class Climb(Paper):
    """A fill with the fewest or the most stays, and heights that show it."""

    def __init__(self, stays, heights):
        self.stays = stays
        self.heights = heights

    def __eq__(self, other):
        return isinstance(other, Climb) and self.stays == other.stays and self.heights == other.heights


def fill_of(calendar, book):
    """A Fill of a calendar, or a Bar."""
    check_both(calendar, book)
    flow = flow_of(calendar, book, 0)
    stuck = flow.run()
    if stuck:
        return Bar(days_of(calendar, stuck))
    return Fill(stays_of(calendar, book, flow))


def is_sellable(calendar, book):
    """Whether a calendar has a fill."""
    check_both(calendar, book)
    return not flow_of(calendar, book, 0).run()


def fewest_stays(calendar, book):
    """A Climb with the fewest stays; each let stay climbs at most 1."""
    check_both(calendar, book)
    flow = whole_flow(calendar, book, 1)
    return Climb(stays_of(calendar, book, flow), heights_of(calendar, flow.heights))


def most_stays(calendar, book):
    """A Climb with the most stays; each let stay climbs at least 1."""
    check_both(calendar, book)
    flow = whole_flow(calendar, book, -1)
    return Climb(stays_of(calendar, book, flow), heights_of(calendar, [-height for height in flow.heights]))


def climb_of(calendar, heights):
    """What a calendar climbs by heights of its days."""
    check_calendar(calendar)
    free = calendar.free_rooms
    nights = range(calendar.first, calendar.after)
    return sum([free[n - calendar.first] * (heights[n + 1] - heights[n]) for n in nights])


def check_calendar(value):
    """Refuses any value that is no calendar."""
    if not isinstance(value, Calendar):
        raise BadCalendar("calendar")


def check_both(calendar, book):
    """Refuses any values that are no calendar, no book."""
    check_calendar(calendar)
    check_book(book, "book")


def supplies_of(free):
    """The supplies of the days, from the first one to the after, by the free rooms night by night."""
    rooms = (0, *free, 0)
    return [rooms[at + 1] - rooms[at] for at in range(len(rooms) - 1)]


def arcs_of(calendar, book, cost):
    """The let stays within a calendar's days, in order, as arcs of this cost."""
    first = calendar.first
    return [(stay.first - first, stay.after - first, cost) for stay in book.let_stays(first, calendar.after)]


def flow_of(calendar, book, cost):
    """What let stays within a calendar's days, each of this cost from -1 to 1, can carry from day to day."""
    supplies = supplies_of(calendar.free_rooms)
    # Each stay has a night or more, so these heights climb at most the cost, also if it is -1.
    heights = [at * min(int(cost), 0) for at in range(len(supplies))]
    return Flow(supplies, arcs_of(calendar, book, cost), heights)


def whole_flow(calendar, book, cost):
    """The flow of least cost, with all that is to be carried."""
    flow = flow_of(calendar, book, cost)
    stuck = flow.run()
    if stuck:
        raise Dead(days_of(calendar, stuck))
    return flow


def days_of(calendar, places):
    """The days of a calendar at these places."""
    return tuple([calendar.first + place for place in places])


def stays_of(calendar, book, flow):
    """The stays of what a flow carries, in order, each as often as it is used; other arcs may stand behind theirs."""
    stays = []
    for stay, often in zip(list(book.let_stays(calendar.first, calendar.after)), flow.carried):
        stays.extend([stay for _ in range(often)])
    return tuple(stays)


def heights_of(calendar, heights):
    """Heights of places as those of the days of a calendar."""
    return {calendar.first + place: height for place, height in enumerate(heights)}
