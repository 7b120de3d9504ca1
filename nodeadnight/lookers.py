"""Lookers: they read papers and tell whether they are right, without a search."""

from nodeadnight.basics import is_day, is_from, is_whole
from nodeadnight.books import check_book
from nodeadnight.fills import Bar, Climb, Fill, check_both, climb_of
from nodeadnight.gifts import Gifts
from nodeadnight.judge import Story, Table, check_door, check_stretch, sales_in
from nodeadnight.ranges import NoRooms, Rooms, number_of
from nodeadnight.sights import Ground, Sight
from nodeadnight.stays import Stay
from nodeadnight.stretches import Stretch
from nodeadnight.wishes import Lot, check_wishes, is_let_within, left_free


class Looker:
    """Looks at papers of a calendar, as it is when the looker is made, and of a book."""

    def __init__(self, calendar, book):
        check_both(calendar, book)
        self.calendar = calendar.twin()
        self.book = book

    def fills(self, paper):
        """Whether any value is a right Fill."""
        return isinstance(paper, Fill) and are_filling(self, paper.stays, self.calendar.free_rooms)

    def bars(self, paper):
        """Whether any value is a right Bar."""
        if not isinstance(paper, Bar) or not are_closed(self, paper.days):
            return False
        return sum([self.calendar.supply(day) for day in paper.days]) > 0

    def climbs(self, paper, word):
        """Whether any value is a right Climb of the fewest stays or of the most, as the word tells."""
        if word != "fewest" and word != "most" or not isinstance(paper, Climb):
            return False
        least, greatest = (None, 1) if word == "fewest" else (1, None)
        if not are_filling(self, paper.stays, self.calendar.free_rooms):
            return False
        if not are_heights(self, paper.heights, least, greatest):
            return False
        return climb_of(self.calendar, paper.heights) == len(paper.stays)

    def gives(self, paper):
        """Whether any value is a right Gifts."""
        if not isinstance(paper, Gifts) or not are_nights(self.calendar, paper.nights):
            return False
        left = list(self.calendar.free_rooms)
        for night in paper.nights:
            left[night - self.calendar.first] = left[night - self.calendar.first] - 1
        heights = paper.heights
        if not are_filling(self, paper.stays, left) or not are_heights(self, heights, None, 0):
            return False
        nights = range(self.calendar.first, self.calendar.after)
        if not all([heights[night + 1] - heights[night] <= 1 for night in nights]):
            return False
        return climb_of(self.calendar, heights) == len(paper.nights)

    def ranges(self, paper):
        """Whether any value is a right Rooms or a right NoRooms."""
        if isinstance(paper, Rooms):
            return is_right_rooms(self, paper)
        return isinstance(paper, NoRooms) and is_right_none(self, paper)

    def lots(self, paper, wishes):
        """Whether any value is a right Lot for wishes."""
        check_wishes(self.calendar, self.book, wishes)
        if not isinstance(paper, Lot) or not are_indexes(paper.taken, len(wishes)) or not is_whole(paper.worth):
            return False
        left = left_free(self.calendar, [wishes[at][0] for at in paper.taken])
        heights = paper.heights
        if not are_filling(self, paper.stays, left) or not are_heights(self, heights, 0, None):
            return False
        most = climb_of(self.calendar, heights)
        for stay, worth in wishes:
            most = most + max(0, worth - heights[stay.after] + heights[stay.first])
        return paper.worth == most and paper.worth == sum([wishes[at][1] for at in paper.taken])


class Watcher:
    """Looks at papers of a door and a book."""

    def __init__(self, door, book):
        check_door(door, "door")
        check_book(book, "book")
        self.door = door
        self.book = book

    def closed(self, paper, stretch):
        """Whether any value is a Table from which sales lead to its own stretches alone, with a stretch among them."""
        check_stretch(self.book, stretch)
        if not isinstance(paper, Table) or not are_stretches(paper.stretches):
            return False
        places = [(each.day, each.nights) for each in paper.stretches]
        told = {place: True for place in places}
        ground = Ground(self.book, max([0] + [each.nights for each in paper.stretches], key=int))
        if not all([ground.is_live_on(day, nights) for day, nights in places]):
            return False
        sight = Sight(self.door, ground)
        # One by one, up to the first that leads out: each one alone can have very many sales.
        for place in places:
            for _, left in sales_in(sight, place):
                if not all([part[1] == 0 or part in told for part in left]):
                    return False
        return stretch.nights == 0 or (stretch.day, stretch.nights) in told

    def tells(self, paper, stretch):
        """Whether any value is a Story of sales from a stretch, the last one of which alone leaves a dead one."""
        ground = check_stretch(self.book, stretch)
        if not isinstance(paper, Story) or not isinstance(paper.stays, tuple) or len(paper.stays) == 0:
            return False
        sight = Sight(self.door, ground)
        free, living = [(stretch.day, stretch.nights)], True
        for stay in paper.stays:
            place = place_of(free, stay)
            if not living or place is None or not is_sold(sight, place, stay):
                return False
            parts = [(place[0], stay.first - place[0]), (stay.after, place[0] + place[1] - stay.after)]
            free = [each for each in free if each != place] + parts
            living = all([ground.is_live_on(day, nights) for day, nights in parts])
        return not living


def are_filling(looker, stays, rooms):
    """Whether any value is a tuple of let stays, in order, that lie over each night just as often as told."""
    if not isinstance(stays, tuple) or not all([is_let_within(looker.calendar, looker.book, stay) for stay in stays]):
        return False
    places = [(stay.first, stay.after) for stay in stays]
    if not all([places[at] <= places[at + 1] for at in range(len(places) - 1)]):
        return False
    many = [0 for _ in rooms]
    for stay in stays:
        for night in stay:
            many[night - looker.calendar.first] = many[night - looker.calendar.first] + 1
    return many == list(rooms)


def is_ascending(numbers):
    """Whether integers are in order, without duplicates."""
    return all([numbers[at] < numbers[at + 1] for at in range(len(numbers) - 1)])


def are_indexes(value, many):
    """Whether any value is an ascending tuple of indexes of so many things."""
    return isinstance(value, tuple) and all([is_from(at, 0, many - 1) for at in value]) and is_ascending(value)


def are_nights(calendar, value):
    """Whether any value is a tuple of nights of a calendar, from the least on; each can stand several times."""
    if not isinstance(value, tuple) or not all([is_from(night, calendar.first, calendar.after - 1) for night in value]):
        return False
    return all([value[at] <= value[at + 1] for at in range(len(value) - 1)])


def are_closed(looker, value):
    """Whether any value is an ascending tuple of days, from the first one to the after, that is a closed set."""
    first, after = looker.calendar.first, looker.calendar.after
    if not isinstance(value, tuple) or not all([is_from(day, first, after) for day in value]):
        return False
    if not is_ascending(value):
        return False
    stays = list(looker.book.let_stays(first, after))
    return all([stay.first not in value or stay.after in value for stay in stays])


def are_heights(looker, value, least, greatest):
    """Whether any value is a dict of heights at which let stays climb so much at least and at most, None for no end."""
    first, after = looker.calendar.first, looker.calendar.after
    if not isinstance(value, dict) or len(value) != after - first + 1:
        return False
    if not all([is_from(day, first, after) for day in value]) or not all([is_whole(value[day]) for day in value]):
        return False
    stays = list(looker.book.let_stays(first, after))
    climbed = [value[stay.after] - value[stay.first] for stay in stays]
    if least is not None and not all([each >= least for each in climbed]):
        return False
    return greatest is None or all([each <= greatest for each in climbed])


def is_side(looker, value, has_first, has_after):
    """Whether any value is a closed set of days in which the first day and the after are or are not."""
    if not are_closed(looker, value):
        return False
    calendar = looker.calendar
    return (calendar.first in value) == has_first and (calendar.after in value) == has_after


def is_row(looker, value):
    """Whether any value is a row of let stays that fills all nights."""
    if not isinstance(value, tuple) or len(value) == 0:
        return False
    if not all([isinstance(stay, Stay) and stay in looker.book for stay in value]):
        return False
    if value[0].first != looker.calendar.first or value[-1].after != looker.calendar.after:
        return False
    return all([value[at].after == value[at + 1].first for at in range(len(value) - 1)])


def is_right_rooms(looker, paper):
    """Whether a Rooms is right."""
    calendar, fewest, most = looker.calendar, paper.fewest, paper.most
    if not is_whole(fewest) or fewest < 1:
        return False
    if fewest == 1 and paper.lower is not None:
        return False
    if fewest > 1 and not (is_side(looker, paper.lower, False, True) and number_of(calendar, paper.lower) == fewest):
        return False
    numbers = [fewest]
    if most is None:
        if not is_row(looker, paper.upper):
            return False
    else:
        if not is_whole(most) or most < fewest or not is_side(looker, paper.upper, True, False):
            return False
        if number_of(calendar, paper.upper) != -most:
            return False
        numbers = [fewest] if most == fewest else [fewest, most]
    if not isinstance(paper.filled, tuple) or len(paper.filled) != len(numbers):
        return False
    guests = [calendar.rooms - free for free in calendar.free_rooms]
    rooms = [[number - many for many in guests] for number in numbers]
    return all([are_filling(looker, paper.filled[at], rooms[at]) for at in range(len(rooms))])


def is_right_none(looker, paper):
    """Whether a NoRooms is right."""
    calendar, lower, upper, both = looker.calendar, paper.lower, paper.upper, paper.both
    if both is not None:
        if lower is not None or upper is not None or not are_closed(looker, both):
            return False
        return (calendar.first in both) == (calendar.after in both) and number_of(calendar, both) > 0
    if not is_side(looker, upper, True, False):
        return False
    if lower is not None and not is_side(looker, lower, False, True):
        return False
    least = 1 if lower is None else number_of(calendar, lower)
    return -number_of(calendar, upper) < least


def are_stretches(value):
    """Whether any value is a tuple of finite stretches with nights that end on days, by days, then by nights."""
    if not isinstance(value, tuple) or not all([is_short(each) for each in value]):
        return False
    return is_ascending([(each.day, each.nights) for each in value])


def is_short(value):
    """Whether any value is a finite stretch with nights that ends on a day."""
    if not isinstance(value, Stretch) or value.nights is None:
        return False
    return value.nights > 0 and is_day(value.day + value.nights)


def place_of(free, stay):
    """The one of the free stretches in which any value is a stay, by day and nights; None if there is none."""
    if not isinstance(stay, Stay):
        return None
    for day, nights in free:
        if day <= stay.first and stay.after <= day + nights:
            return day, nights
    return None


def is_sold(sight, place, stay):
    """Whether a stay in a stretch is sold there."""
    day, nights = place
    return sight.sold_on(day, nights, stay.first - day) >> len(stay) & 1 == 1
