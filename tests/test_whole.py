"""Points [1] to [14] over the whole program: what several modules tell of the same houses, calendars and doors."""

import itertools
import unittest

from nodeadnight.books import Book
from nodeadnight.calendars import Calendar
from nodeadnight.desk import Desk
from nodeadnight.doors import Weakest
from nodeadnight.errors import StayError
from nodeadnight.fills import fewest_stays, fill_of, is_sellable, most_stays
from nodeadnight.gifts import fewest_gifts
from nodeadnight.houses import House
from nodeadnight.judge import Table, is_safe, story
from nodeadnight.lengths import Lengths
from nodeadnight.lookers import Looker, Watcher
from nodeadnight.primes import alike, primes
from nodeadnight.ranges import Rooms, rooms_for
from nodeadnight.reader import read_calendar
from nodeadnight.stays import Stay
from nodeadnight.stretches import Stretch, is_live
from nodeadnight.texts import calendar_text
from nodeadnight.wishes import best_lot, can_take, fates
from house_model import BOOKS, empty, some_deed
from papers import SMALL, THREE_ROOMS, TINY, name_of
from values import LAST, Checks, shuffled

CALENDARS = TINY + THREE_ROOMS


class Led:
    """What deeds are drawn for: a house, told as a model is."""

    def __init__(self, house):
        self.book, self.first, self.after = house.book, house.first, house.after
        self.rows = [(name, house[name]) for name in house]


def free_stretches(house):
    """The free stretches of a house of one room."""
    free = house.calendar_now().free_rooms
    found, begin = [], None
    for night, many in enumerate([*free, 0]):
        if many and begin is None:
            begin = night
        elif not many and begin is not None:
            found.append(Stretch(house.first + begin, night - begin))
            begin = None
    return found


class HousesTest(Checks, unittest.TestCase):
    def told_anew(self, house):
        """A house with the same guests, told in another way: a book that lets all, and the guests one after another."""
        anew = House(Book.every(), house.rooms, house.first, house.after)
        for name in house.names:
            anew[name] = house[name]
        anew.book = house.book
        return anew

    def test_drawn_deeds(self):
        many = 0
        for parts in shuffled(161, 60, empty):
            source = shuffled(str(parts[1:]), 1, lambda source: source)[0]
            house, desk = House(*parts), Desk()
            desk(f"open {parts[1]} {parts[2]} {parts[3]} {parts[0]}")
            for _ in range(20):
                word, arguments = some_deed(source, Led(house))
                if word == "sell_all":
                    rows = [f"sell {name} {stay}" for name, stay in arguments[0]]
                    self.at_one_stroke(house, desk, arguments[0], rows)
                    continue
                line = " ".join([word.removeprefix("set_"), *map(str, arguments)])
                self.the_same(lambda: getattr(house, word)(*arguments), lambda: desk(line))
                self.same(desk.house_now() == house, True)
                self.same(desk.house_now().names, house.names)
                self.same(self.told_anew(house) == house, True)
                many += 1
        self.assertGreater(many, 500)

    def the_same(self, work, answer):
        """Checks that a call and a line of a desk come to the same."""
        try:
            told = work()
        except StayError as error:
            with self.assertRaises(type(error)):
                answer()
        else:
            self.same(answer(), "ok" if told is None else str(told))

    def at_one_stroke(self, house, desk, rows, lines):
        """Several sales at one stroke are a run of sales, though another deed: it is taken back in both."""
        try:
            house.sell_all(rows)
        except StayError as error:
            with self.assertRaises(type(error)):
                desk.run(*lines)
        else:
            desk.run(*lines)
            self.same(desk.house_now() == house, True)
            house.undo()
            desk.run(*["undo" for _ in lines])
        self.same(desk.house_now() == house, True)

    def test_any_order(self):
        for parts in shuffled(162, 60, empty):
            source = shuffled(str(parts[1:]), 1, lambda source: source)[0]
            house = House(*parts)
            while True:
                offers = list(house.offers())
                if not offers or len(house) == 6:
                    break
                house[name_of(len(house))] = source.choice(offers)
            rows = [(name, house[name]) for name in house]
            source.shuffle(rows)
            other = House(*parts)
            other.sell_all(rows)
            self.same([other == house, other.calendar_now() == house.calendar_now()], [True, True])
            for name, _ in rows:
                other.cancel(name)
                self.same(is_sellable(other.calendar_now(), other.book), True)

    def test_what_is_offered(self):
        for calendar, book in CALENDARS:
            without_guests = Calendar(calendar.rooms, calendar.first, calendar.after)
            if is_sellable(calendar, book) and is_sellable(without_guests, book):
                stays = list(book.let_stays(calendar.first, calendar.after))
                house = House(Book.every(), calendar.rooms, calendar.first, calendar.after)
                house.sell_all([(name, calendar[name]) for name in calendar])
                try:
                    house.book = book
                except StayError:
                    continue
                offers = list(house.offers())
                self.same([stay in offers for stay in stays], [can_take(calendar, book, [stay]) for stay in stays])
                self.same([stay in offers for stay in stays],
                          [best_lot(calendar, book, [(stay, 1)]).worth == 1 for stay in stays])
                self.same([stay in offers for stay in stays],
                          [fates(calendar, book, [(stay, 1)]) == ["all"] for stay in stays])


class OneRoomTest(Checks, unittest.TestCase):
    def test_the_weakest_door(self):
        found = []
        for (book, _, first, after), seed in zip(shuffled(163, 120, empty), range(120)):
            if not is_sellable(Calendar(1, first, after), book):
                continue
            source = shuffled(seed, 1, lambda source: source)[0]
            house, door = House(book, 1, first, after), Weakest(book)
            for _ in range(4):
                free = free_stretches(house)
                self.same(all(is_live(book, stretch) for stretch in free), True)
                sold = []
                for day, nights in itertools.product(range(first, after), range(1, 8)):
                    if day + nights > after:
                        continue
                    stay = Stay(day, day + nights)
                    inside = [stretch for stretch in free if stretch.has_stay(stay)]
                    self.same(house.sells(stay), any(door(stretch, stay) for stretch in inside))
                    sold += [stay] if house.sells(stay) else []
                    found.append(house.sells(stay))
                self.assertEqual(sold, list(house.offers()))
                if not sold:
                    break
                house[name_of(len(house))] = source.choice(sold)
        self.assertTrue(found.count(True) > 200 and found.count(False) > 200)

    def test_what_sales_lead_to(self):
        for book in BOOKS:
            door = Weakest(book)
            self.same(is_safe(door, book), True)
            for nights in range(1, 8):
                if is_live(book, Stretch(0, nights)):
                    table = story(door, book, Stretch(0, nights))
                    self.assertIs(type(table), Table)
                    self.same(Watcher(door, book).closed(table, Stretch(0, nights)), True)
                    house = House(book, 1, 0, nights)
                    for stay in house.offers():
                        left = [part for part in Stretch(0, nights) - stay if part.nights]
                        self.same(all(part in table.stretches for part in left), True)


def moved(calendar, days):
    other = Calendar(calendar.rooms, calendar.first + days, calendar.after + days)
    for name in calendar:
        other[name] = calendar[name] >> days
    return other


def twice(calendar):
    other = Calendar(2 * calendar.rooms, calendar.first, calendar.after)
    for name in calendar:
        other[name] = other["z" + name] = calendar[name]
    return other


def numbers_of(calendar, book, wishes):
    """What is told of a calendar in numbers: stays, gifts, rooms, worth and fates."""
    told = [is_sellable(calendar, book), len(fewest_gifts(calendar, book).nights)]
    paper = rooms_for(calendar, book)
    told += [paper.fewest, paper.most] if type(paper) is Rooms else [None, None]
    if told[0]:
        told += [len(fewest_stays(calendar, book).stays), len(most_stays(calendar, book).stays)]
        told += [best_lot(calendar, book, wishes).worth, fates(calendar, book, wishes)]
    return told


def some_wishes(source, calendar, book, most):
    stays = list(book.let_stays(calendar.first, calendar.after))
    return [(source.choice(stays), source.randint(0, 4)) for _ in range(source.randint(0, most) if stays else 0)]


class CalendarsTest(Checks, unittest.TestCase):
    def test_moved_by_whole_rounds(self):
        source = shuffled(164, 1, lambda source: source)[0]
        for calendar, book in CALENDARS + SMALL[:80]:
            wishes = some_wishes(source, calendar, book, 8)
            far = (LAST - 50) // book.round * book.round
            for days in [book.round, -3 * book.round, far, -far]:
                if not (-LAST <= calendar.first + days and calendar.after + days <= LAST):
                    continue
                other = moved(calendar, days)
                later = [(stay >> days, worth) for stay, worth in wishes]
                self.same(numbers_of(other, book, later), numbers_of(calendar, book, wishes))
                paper, same = fill_of(calendar, book), fill_of(other, book)
                self.assertIs(type(same), type(paper))
                look = Looker(other, book)
                self.same([look.fills(same) or look.bars(same), look.gives(fewest_gifts(other, book)),
                           look.ranges(rooms_for(other, book))], [True, True, True])

    def test_all_rooms_and_guests_twice(self):
        source = shuffled(165, 1, lambda source: source)[0]
        for calendar, book in CALENDARS:
            wishes = some_wishes(source, calendar, book, 4)
            one, both = numbers_of(calendar, book, wishes), numbers_of(twice(calendar), book, wishes + wishes)
            self.same(both[:2], [one[0], 2 * one[1]])
            if one[2] is not None:
                self.same(both[2:4], [2 * one[2] if len(calendar) else 1, None if one[3] is None else 2 * one[3]])
            if one[0]:
                self.same(both[4:7], [2 * number for number in one[4:7]])

    def test_with_another_calendar_behind_a_sold_out_night(self):
        for (calendar, book), (other, _) in itertools.pairwise(CALENDARS):
            # The other one begins on the day on which it stood, by the round, so that its stays are let as before.
            gap = (other.first - calendar.after - 1) % book.round + 1
            days = calendar.after + gap - other.first
            rooms = max(calendar.rooms, other.rooms)
            if rooms != min(calendar.rooms, other.rooms):
                continue
            both = Calendar(rooms, calendar.first, other.after + days)
            for number, (name, stay) in enumerate([*calendar.guests(), *moved(other, days).guests(),
                                                   *[("sold", Stay(calendar.after, calendar.after + gap))] * rooms]):
                both[name_of(number)] = stay
            one, two = numbers_of(calendar, book, []), numbers_of(other, book, [])
            told = numbers_of(both, book, [])
            self.same(told[:2], [one[0] and two[0], one[1] + two[1]])
            if told[0]:
                self.same(told[4:6], [one[4] + two[4], one[5] + two[5]])

    def test_texts(self):
        for calendar, book in CALENDARS:
            other = read_calendar(calendar_text(calendar))
            self.same([other == calendar, fill_of(other, book) == fill_of(calendar, book)], [True, True])

    def test_primes_fill_the_same(self):
        for calendar, book in CALENDARS + SMALL[:80]:
            least = primes(book) if book.size <= 60 else book
            self.same([alike(book, least), is_sellable(calendar, least)], [True, is_sellable(calendar, book)])
            self.same(len(fewest_gifts(calendar, least).nights), len(fewest_gifts(calendar, book).nights))

    def test_a_calendar_is_sellable_exactly_if_its_own_number_of_rooms_does(self):
        for calendar, book in CALENDARS:
            paper = rooms_for(calendar, book)
            does = type(paper) is Rooms and paper.fewest <= calendar.rooms and (
                paper.most is None or calendar.rooms <= paper.most)
            self.same(is_sellable(calendar, book), does)

    def test_gifts_as_stays_of_one_night(self):
        # With stays of one night let as well no gift is needed; each gift becomes such a stay.
        for calendar, book in CALENDARS:
            gifts = fewest_gifts(calendar, book)
            self.same(fewest_gifts(calendar, book | Book.by_days(Lengths.of(1))).nights, ())
            paid = calendar.twin()
            if len(paid) + len(gifts.nights) <= 100:
                for number, night in enumerate(gifts.nights):
                    paid["g" + name_of(number)] = Stay(night, night + 1)
                self.same(is_sellable(paid, book), True)


if __name__ == "__main__":
    unittest.main()
