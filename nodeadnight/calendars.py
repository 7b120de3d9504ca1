"""Calendars: rooms that are alike, days, and the guests who have stays in them."""

from nodeadnight.basics import is_day, is_from, is_name
from nodeadnight.errors import BadCalendar, BadCount, BadName, Full, NoGuest, Outside, Taken, TooMany
from nodeadnight.stays import check_stay


class Calendar:
    """The nights from a day first to a day after, less this one, of some rooms, and the stays of guests in them."""

    ROOMS = 12
    NIGHTS = 40
    GUESTS = 100

    def __init__(self, rooms, first, after):
        if not is_from(rooms, 1, Calendar.ROOMS):
            raise BadCalendar("rooms")
        if not is_day(first):
            raise BadCalendar("first")
        if not is_day(after) or not first < after <= first + Calendar.NIGHTS:
            raise BadCalendar("after")
        self.rooms = rooms
        self.first = first
        self.after = after
        self._stays = {}

    @property
    def names(self):
        """The names of the guests, in the order in which they came."""
        return tuple(self._stays)

    @property
    def free_rooms(self):
        """How many rooms are free, night by night."""
        rooms = [self.rooms for _ in range(self.first, self.after)]
        for stay in self._stays.values():
            for night in stay:
                rooms[night - self.first] = rooms[night - self.first] - 1
        return tuple(rooms)

    def __setitem__(self, at, worth):
        check_new(self, at)
        check_within(self, worth)
        check_free(self, worth)
        if len(self._stays) >= Calendar.GUESTS:
            raise TooMany("guests", Calendar.GUESTS)
        self._stays[at] = worth

    def __iadd__(self, other):
        name, stay = other
        self[name] = stay
        return self

    def __getitem__(self, at):
        if at not in self:
            raise NoGuest(at)
        return self._stays[at]

    def __contains__(self, x):
        return isinstance(x, str) and x in self._stays

    def __len__(self):
        return len(self._stays)

    def __iter__(self):
        return iter(self._stays)

    def drop(self, name):
        """Takes a guest out and returns the stay."""
        if name not in self:
            raise NoGuest(name)
        return self._stays.pop(name)

    def guests(self):
        """Yields the guests with their stays, names ascending."""
        # What comes of the calendar while somebody walks through it plays no part.
        stays = dict(self._stays)
        for name in sorted([str(name) for name in stays]):
            yield name, stays[name]

    def free(self, night):
        """How many rooms are free in a night of the calendar."""
        if not is_from(night, self.first, self.after - 1):
            raise BadCount(night)
        return self.free_rooms[night - self.first]

    def supply(self, day):
        """How many rooms come free on a day, less those that are taken."""
        if not is_from(day, self.first, self.after):
            raise BadCount(day)
        free = self.free_rooms
        rooms = (0, *free, 0)
        return rooms[day - self.first + 1] - rooms[day - self.first]

    def room_plan(self):
        """A room for each name, so that nobody moves."""
        plan, ends = {}, [self.first for _ in range(self.rooms)]
        for name in names_by_stays(self):
            stay = self._stays[name]
            room = [end <= stay.first for end in ends].index(True)
            plan[name] = room
            ends[room] = stay.after
        return plan

    def with_rooms(self, rooms):
        """A calendar with another number of rooms and the same guests."""
        calendar = Calendar(rooms, self.first, self.after)
        for at, free in enumerate(self.free_rooms):
            if self.rooms - free > rooms:
                raise Full(self.first + at)
        calendar._stays = dict(self._stays)
        return calendar

    def twin(self):
        """An equal calendar that goes its own way."""
        return self.with_rooms(self.rooms)

    def trial(self):
        """For a block, behind which the calendar is as it was."""
        return Trial(self)

    def tried(self, work):
        """What work makes of the calendar, which is behind it as it was."""
        with self.trial() as same:
            return work(same)

    def __eq__(self, other):
        return isinstance(other, Calendar) and parts_of(self) == parts_of(other) and self._stays == other._stays


class Trial:
    """Keeps the guests of a calendar for a block."""

    def __init__(self, calendar):
        self.calendar = calendar
        self.kept = {}

    def __enter__(self):
        self.kept = dict(self.calendar._stays)
        return self.calendar

    def __exit__(self, kind, value, trace):
        calendar = self.calendar
        calendar._stays = self.kept


def check_new(calendar, name):
    """Refuses any value that is no name, and one of a guest."""
    if not is_name(name):
        raise BadName(name)
    if name in calendar:
        raise Taken(name)


def check_within(calendar, stay):
    """Refuses any value that is no stay within the days of a calendar."""
    check_stay(stay)
    if stay.first < calendar.first or stay.after > calendar.after:
        raise Outside(stay)


def check_free(calendar, stay):
    """Refuses a stay with a night on which no room is free."""
    free = calendar.free_rooms
    for night in stay:
        if free[night - calendar.first] == 0:
            raise Full(night)


def with_change(calendar, name, stay):
    """A calendar in which a guest has another stay, at the same place among the names."""
    changed = calendar.twin()
    # A name that is there keeps its place.
    changed._stays[name] = stay
    return changed


def parts_of(calendar):
    """What a calendar was made of."""
    return calendar.rooms, calendar.first, calendar.after


def names_by_stays(calendar):
    """The names of the guests in the order of their stays, those with equal ones ascending."""
    found = {}
    for name, stay in calendar.guests():
        place = (stay.first - calendar.first) * (Calendar.NIGHTS + 1) + len(stay)
        found.setdefault(place, []).append(name)
    order = sorted([int(number) for number in found])
    return [name for number in order for name in found[number]]
