"""Houses: calendars with a book that are sellable at each moment."""

from nodeadnight.books import check_book
from nodeadnight.calendars import Calendar, check_free, check_new, check_within, with_change
from nodeadnight.errors import BadRow, Dead, Loose, NoDeed, NotLet
from nodeadnight.fills import Bar, fill_of, whole_flow
from nodeadnight.stays import check_stay
from nodeadnight.stretches import row_of
from nodeadnight.wishes import can_take, is_let_within


class House:
    """Rooms and days as those of a calendar, with a book; all free nights can always be sold by it."""

    def __init__(self, book, rooms, first, after):
        check_book(book, "book")
        calendar = Calendar(rooms, first, after)
        check_filled(calendar, book)
        self.first = first
        self.after = after
        self._state = State(calendar, book, None, None)

    @property
    def book(self):
        """The book by which stays are let."""
        return self._state.book

    @book.setter
    def book(self, value):
        self.set_book(value)

    @property
    def rooms(self):
        """The number of rooms."""
        return self._state.calendar.rooms

    @rooms.setter
    def rooms(self, value):
        self.set_rooms(value)

    @property
    def names(self):
        """The names of the guests, in the order in which they came."""
        return self._state.calendar.names

    @property
    def deeds(self):
        """How many deeds can be taken back."""
        return self._state.many

    def __setitem__(self, at, worth):
        self.sell(at, worth)

    def __iadd__(self, other):
        name, stay = other
        self.sell(name, stay)
        return self

    def __getitem__(self, at):
        return self._state.calendar[at]

    def __contains__(self, x):
        return x in self._state.calendar

    def __len__(self):
        return len(self._state.calendar)

    def __iter__(self):
        return iter(self._state.calendar)

    def sell(self, name, stay):
        """Sells a stay to a new guest."""
        self.settle("sell", with_sale(self._state.calendar, self.book, name, stay), self.book)

    def sells(self, stay):
        """Whether the house would sell a stay to a new guest."""
        check_stay(stay)
        calendar = self._state.calendar
        if len(calendar) >= Calendar.GUESTS or not is_let_within(calendar, self.book, stay):
            return False
        return can_take(calendar, self.book, [stay])

    def offers(self):
        """Yields the stays that the house would sell, in order."""
        for stay in open_stays(self._state.calendar, self.book):
            yield stay

    def sell_all(self, rows):
        """Sells several stays at one stroke, all of them or none; rows are pairs of a name and a stay."""
        if not isinstance(rows, (list, tuple)):
            raise BadRow(None)
        for at, row in enumerate(rows):
            if not isinstance(row, tuple) or len(row) != 2:
                raise BadRow(at)
        calendar = self._state.calendar
        for name, stay in rows:
            calendar = with_sale(calendar, self.book, name, stay)
        self.settle("all", calendar, self.book)

    def cancel(self, name):
        """Takes a guest out and returns the stay."""
        calendar = self._state.calendar.twin()
        stay = calendar.drop(name)
        self.settle("cancel", calendar, self.book)
        return stay

    def change(self, name, stay):
        """Gives a guest another stay, in the place of the one."""
        calendar = self._state.calendar
        rest = calendar.twin()
        rest.drop(name)
        check_within(rest, stay)
        check_let(self.book, stay)
        check_free(rest, stay)
        changed = with_change(calendar, name, stay)
        check_filled(changed, self.book)
        self.settle("change", changed, self.book)

    def set_book(self, book):
        """Takes another book; what is sold stays sold."""
        check_book(book, "book")
        calendar = self._state.calendar
        for name, stay in calendar.guests():
            if row_of(book, stay.first, len(stay)) is None:
                bar = fill_of(Calendar(1, stay.first, stay.after), book).days
                raise Loose(name) from Dead(bar)
        check_filled(calendar, book)
        self.settle("book", calendar, book)

    def set_rooms(self, rooms):
        """Takes another number of rooms; what is sold stays sold."""
        calendar = self._state.calendar.with_rooms(rooms)
        check_filled(calendar, self.book)
        self.settle("rooms", calendar, self.book)

    def calendar_now(self):
        """A calendar with the guests of this moment."""
        return self._state.calendar.twin()

    def fill_now(self):
        """A Fill of this moment."""
        return fill_of(self._state.calendar, self.book)

    def undo(self):
        """Takes back the last deed that was not taken back, and returns its word."""
        state = self._state
        if state.back is None:
            raise NoDeed()
        self._state = state.back
        return state.word

    def settle(self, word, calendar, book):
        """Does a deed, by its word and what comes of it."""
        self._state = State(calendar, book, word, self._state)

    def moment(self):
        """What go_back takes, to make all as it is now."""
        return self._state

    def go_back(self, moment):
        """Makes all as it was at a moment of this house, with what can be taken back."""
        self._state = moment

    def trial(self):
        """For a block, behind which the house is as it was."""
        return HouseTrial(self)

    def tried(self, work):
        """What work makes of the house, which is behind it as it was."""
        with self.trial() as same:
            return work(same)

    def twin(self):
        """An equal house with nothing to take back, that goes its own way."""
        house = House(self.book, self.rooms, self.first, self.after)
        house.go_back(State(self._state.calendar, self.book, None, None))
        return house

    def __eq__(self, other):
        return isinstance(other, House) and self.book == other.book and self._state.calendar == other._state.calendar


class State:
    """What a house is at a moment; back is the one ahead of the deed with the word, None if no deed led here.

    Its calendar is never changed: each deed makes another one.
    """

    def __init__(self, calendar, book, word, back):
        self.calendar = calendar
        self.book = book
        self.word = word
        self.back = back
        self.many = 0 if back is None else back.many + 1


class HouseTrial:
    """Keeps the state of a house for a block."""

    def __init__(self, house):
        self.house = house
        self.kept = house.moment()

    def __enter__(self):
        self.kept = self.house.moment()
        return self.house

    def __exit__(self, kind, value, trace):
        house = self.house
        house._state = self.kept


def check_let(book, stay):
    """Refuses a stay that a book does not let."""
    if stay not in book:
        raise NotLet(stay)


def check_filled(calendar, book):
    """Refuses a calendar without a fill."""
    paper = fill_of(calendar, book)
    if isinstance(paper, Bar):
        raise Dead(paper.days)


def with_sale(calendar, book, name, stay):
    """A calendar with a sale more; refuses what a house refuses."""
    check_new(calendar, name)
    check_within(calendar, stay)
    check_let(book, stay)
    sold = calendar.twin()
    sold[name] = stay
    check_filled(sold, book)
    return sold


def open_stays(calendar, book):
    """The stays that can be sold, each one alone, so that the rest is sellable; in order."""
    if len(calendar) >= Calendar.GUESTS:
        return []
    flow = whole_flow(calendar, book, 0)
    # A sale takes one that begins on its first day, and leaves one more to begin on its after: it can be made up for
    # exactly if steps lead from there to here.
    ways = [flow.reached(place) for place in range(calendar.after - calendar.first + 1)]
    stays = list(book.let_stays(calendar.first, calendar.after))
    return [stay for stay in stays if stay.first - calendar.first in ways[stay.after - calendar.first]]
