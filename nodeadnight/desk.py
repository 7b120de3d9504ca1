"""A desk: leads a house by lines of words, and answers with strings."""

from nodeadnight.basics import LAST_DAY
from nodeadnight.calendars import Calendar
from nodeadnight.errors import BadLine, BadText, NoHouse, StayError
from nodeadnight.houses import House
from nodeadnight.ranges import rooms_for
from nodeadnight.wishes import MOST_WISHES, MOST_WORTH, best_lot, fates
from nodeadnight.words import Words, take_book

# What stands behind the first word of a line. Behind best, more pairs of a stay and a worth can stand.
FORMS = {
    "open": ("rooms", "day", "day", "book"),
    "sell": ("name", "stay"),
    "change": ("name", "stay"),
    "cancel": ("name",),
    "book": ("book",),
    "rooms": ("rooms",),
    "undo": (),
    "free": (),
    "guests": (),
    "sells": ("stay",),
    "offers": (),
    "best": ("stay", "worth"),
    "numbers": (),
}
DEEDS = ("sell", "change", "cancel", "book", "rooms", "undo")


class Desk:
    """A desk that has no house before a line opens one."""

    def __init__(self):
        self._house = None

    def ask(self, line):
        """Does what a line tells, and returns the answer."""
        word, values = read_line(line)
        if word == "open":
            rooms, first, after, book = values
            self._house = House(book, rooms, first, after)
            return "ok"
        if self._house is None:
            raise NoHouse()
        return done(self._house, word, values) if word in DEEDS else told(self._house, word, values)

    def __call__(self, line):
        return self.ask(line)

    def run(self, *lines):
        """The answers to several lines; if one of them raises an error, the desk is as it was."""
        house = self._house
        moment = None if house is None else house.moment()
        try:
            return [self.ask(line) for line in lines]
        except StayError:
            self._house = house
            if house is not None:
                house.go_back(moment)
            raise

    def house_now(self):
        """A twin of the house, None if there is none."""
        return None if self._house is None else self._house.twin()


def read_line(line):
    """The first word of a line, and the values of the words behind it."""
    if not isinstance(line, str):
        raise BadLine(0)
    words = Words(line, 0)
    try:
        word = words.take(list(FORMS))
        values = [take_value(words, kind) for kind in FORMS[word]]
        while word == "best" and len(values) < 2 * MOST_WISHES and not words.is_at_end():
            values.extend([take_value(words, kind) for kind in FORMS[word]])
        words.check_end()
    except BadText as error:
        raise BadLine(error.word) from None
    return word, values


def take_value(words, kind):
    """Takes the words of a value of a kind, and returns the value."""
    if kind == "rooms":
        return words.take_number(1, Calendar.ROOMS)
    if kind == "day":
        return words.take_number(-LAST_DAY, LAST_DAY)
    if kind == "worth":
        return words.take_number(0, MOST_WORTH)
    if kind == "name":
        return words.take_name("")
    if kind == "stay":
        return words.take_stay()
    return take_book(words)


def done(house, word, values):
    """Does a deed of a house, and returns the answer."""
    if word == "cancel":
        return str(house.cancel(values[0]))
    if word == "undo":
        return house.undo()
    if word == "sell":
        house.sell(values[0], values[1])
    elif word == "change":
        house.change(values[0], values[1])
    elif word == "book":
        house.set_book(values[0])
    else:
        house.set_rooms(values[0])
    return "ok"


def told(house, word, values):
    """What a house tells, without a change."""
    calendar = house.calendar_now()
    if word == "free":
        return " ".join([str(many) for many in calendar.free_rooms])
    if word == "guests":
        return " ; ".join([f"{name} {stay}" for name, stay in calendar.guests()]) or "none"
    if word == "sells":
        return "yes" if house.sells(values[0]) else "no"
    if word == "offers":
        return " ".join([str(stay) for stay in house.offers()]) or "none"
    if word == "best":
        wishes = list(zip(values[0::2], values[1::2]))
        worth, words = best_lot(calendar, house.book, wishes).worth, fates(calendar, house.book, wishes)
        return " ".join([str(worth), *words])
    paper = rooms_for(calendar, house.book)
    greatest = "-" if paper.most is None else str(paper.most)
    return f"{paper.fewest} {greatest}"
