"""Points [2] and [8] to [13], and the heading nodeadnight/lookers.py."""

import itertools
import time
import unittest

from nodeadnight.books import Book
from nodeadnight.calendars import Calendar
from nodeadnight.days import Days
from nodeadnight.doors import Ahead, All, Behind, Door, Lets, No, Some, Weakest
from nodeadnight.errors import BadBook, BadCalendar, BadDoor, BadStretch, BadWish, Dead, TooMany
from nodeadnight.fills import Bar, Climb, Fill, fewest_stays, fill_of, most_stays
from nodeadnight.gifts import Gifts, fewest_gifts
from nodeadnight.judge import Case, Story, Table, story
from nodeadnight.lengths import Lengths
from nodeadnight.lookers import Looker, Watcher
from nodeadnight.ranges import NoRooms, Rooms, rooms_for
from nodeadnight.rules import Comes, Lasts
from nodeadnight.stays import Stay
from nodeadnight.stretches import Stretch
from nodeadnight.wishes import Lot, best_lot
from changed import changed_paper
from doors_made import Live, parts_of, sales_of, some_door, some_small_book, walk
from papers import SMALL, THREE_ROOMS, TINY, Papers, spans_of, with_guests
from values import LAST, NO_ROWS, VALUES, Checks, none_of, shuffled

TWOS = Book(Lasts(Lengths.of(2)))
THREES = Book(Lasts(Lengths.of(3, 4)))
SHORT = Book(Lasts(Lengths.of(2, 3)))
REST = Lengths.of(0) | Lengths.since(3)
CLERK = Ahead(REST) & Behind(REST)

CALENDARS = TINY + THREE_ROOMS[:100] + SMALL[:100]


def passes(check, *arguments):
    """Whether a check by the words of the document passes; a value that it cannot read is wrong."""
    try:
        check(*arguments)
    except Exception:
        return False
    return True


def some_wishes(source, calendar, book):
    stays = list(book.let_stays(calendar.first, calendar.after))
    many = source.randint(0, 6) if stays else 0
    return [(source.choice(stays), source.choice([0, 1, 3, 10 ** 9])) for _ in range(many)]


def two_fills():
    """A calendar and a book for which three rooms, four or five do."""
    calendar = Calendar(12, 0, 3)
    for name, stay in zip(["a", "b", "c", "d", "e"], ["0+1", "2+1", "0+1", "2+1", "0+1"]):
        calendar[name] = Stay.read(stay)
    return calendar, Book.by_days(Lengths.of(2, 4), Lengths.of(1, 2))


def papers_of(calendar, book, wishes):
    """All papers of a calendar, each with the name of the method that looks at it, and what else it takes."""
    yield "gives", fewest_gifts(calendar, book), ()
    yield "ranges", rooms_for(calendar, book), ()
    paper = fill_of(calendar, book)
    if type(paper) is Bar:
        yield "bars", paper, ()
        return
    yield "fills", paper, ()
    yield "climbs", fewest_stays(calendar, book), ("fewest",)
    yield "climbs", most_stays(calendar, book), ("most",)
    yield "lots", best_lot(calendar, book, wishes), (wishes,)


class LookerTest(Papers, unittest.TestCase):
    def is_right(self, calendar, book, name, paper, more):
        """Whether a paper is right by the words of the document."""
        if name == "climbs":
            bounds = {"fewest": (-10 ** 70, 1), "most": (1, 10 ** 70)}[more[0]]
            return passes(self.is_climb, calendar, book, paper, *bounds)
        if name == "lots":
            return passes(self.is_lot, calendar, book, more[0], paper)
        checks = {"fills": self.is_fill_paper, "bars": self.is_bar_paper, "gives": self.is_gifts,
                  "ranges": self.is_range}
        return passes(checks[name], calendar, book, paper)

    def test_each_right_paper(self):
        source = shuffled(141, 1, lambda source: source)[0]
        for calendar, book in CALENDARS:
            look = Looker(calendar, book)
            for name, paper, more in papers_of(calendar, book, some_wishes(source, calendar, book)):
                self.same(getattr(look, name)(paper, *more), True)
                self.same(self.is_right(calendar, book, name, paper, more), True)

    def test_papers_with_one_part_otherwise(self):
        source, found = shuffled(142, 1, lambda source: source)[0], {}
        for calendar, book in CALENDARS:
            look = Looker(calendar=calendar, book=book)
            for name, paper, more in papers_of(calendar, book, some_wishes(source, calendar, book)):
                for _ in range(12):
                    other = changed_paper(source, paper)
                    right = self.is_right(calendar, book, name, other, more)
                    self.same(getattr(look, name)(other, *more), right)
                    found.setdefault((name, right), []).append(other)
        for name in ["fills", "bars", "climbs", "gives", "ranges", "lots"]:
            self.assertGreater(len(found[name, False]), 100)
        self.assertTrue(all(len(found.get((name, True), [])) > 5 for name in ["bars", "climbs", "gives", "lots"]),
                        {key: len(found[key]) for key in found})

    def test_other_right_papers(self):
        for calendar, book in TINY[:60]:
            look, days = Looker(calendar, book), range(calendar.first, calendar.after + 1)
            for many in range(len(days) + 1):
                for chosen in itertools.combinations(days, many):
                    self.same(look.bars(Bar(chosen)), passes(self.is_bar, calendar, book, chosen))
            stays = [Stay(calendar.first + first, calendar.first + after)
                     for first, after in spans_of(calendar, book)]
            for many in range(5):
                for chosen in itertools.combinations_with_replacement(stays, many):
                    self.same(look.fills(Fill(chosen)), passes(self.is_fill, calendar, book, chosen))

    def test_heights_of_any_size(self):
        source = shuffled(143, 1, lambda source: source)[0]
        for calendar, book in CALENDARS[:100]:
            look = Looker(calendar, book)
            for name, paper, more in papers_of(calendar, book, some_wishes(source, calendar, book)):
                if hasattr(paper, "heights"):
                    for far in [10 ** 59, -10 ** 59]:
                        lifted = {day: far + paper.heights[day] for day in reversed(list(paper.heights))}
                        self.same(getattr(look, name)(type(paper)(**{**vars(paper), "heights": lifted}), *more), True)

    def test_a_calendar_that_is_changed_later(self):
        calendar = Calendar(1, 0, 4)
        look, paper = Looker(calendar, TWOS), fill_of(calendar, TWOS)
        calendar["ann"] = Stay(0, 2)
        self.same([look.fills(paper), look.fills(fill_of(calendar, TWOS)), Looker(calendar, TWOS).fills(paper)],
                  [True, False, False])

    def test_values_of_every_kind(self):
        look = Looker(Calendar(2, 0, 4), TWOS)
        for method, kinds in [(look.fills, Fill), (look.bars, Bar), (look.gives, Gifts),
                              (look.ranges, (Rooms, NoRooms))]:
            for value in none_of(kinds):
                self.same(method(value), False)
            self.same(method(paper=None), False)
        for value in none_of(Climb):
            for word in ["fewest", "most"]:
                self.same(look.climbs(value, word), False)
        for value in none_of(Lot):
            self.same([look.lots(value, []), look.lots(value, ((Stay(0, 2), 1),))], [False, False])

    def test_parts_of_every_kind(self):
        calendar = Calendar(2, 0, 4)
        look, wishes = Looker(calendar, TWOS), [(Stay(0, 2), 1), (Stay(2, 4), 0)]
        for name, paper, more in [*papers_of(calendar, TWOS, wishes), ("bars", Bar((0, 2, 4)), ())]:
            for part in vars(paper):
                for value in VALUES:
                    other = type(paper)(**{**vars(paper), part: value})
                    self.same(getattr(look, name)(other, *more), self.is_right(calendar, TWOS, name, other, more))
                    inner = type(paper)(**{**vars(paper), part: (value,)})
                    self.same(getattr(look, name)(inner, *more), self.is_right(calendar, TWOS, name, inner, more))

    def test_words_of_climbs(self):
        calendar = Calendar(2, 0, 6)
        look, few, many = Looker(calendar, SHORT), fewest_stays(calendar, SHORT), most_stays(calendar, SHORT)
        self.same([look.climbs(paper=few, word="fewest"), look.climbs(many, "most"), look.climbs(few, "most"),
                   look.climbs(many, "fewest")], [True, True, False, False])
        for word in VALUES + ["Fewest", "most ", "", ("most",), ["fewest"]]:
            self.same([look.climbs(few, word), look.climbs(many, word)], [False, False])

    def test_of_another_calendar_or_book(self):
        for (calendar, book), (other, another) in itertools.pairwise(CALENDARS[:120]):
            for name, paper, more in papers_of(calendar, book, []):
                for place, told in [(calendar, another), (other, book)]:
                    right = self.is_right(place, told, name, paper, more)
                    self.same(getattr(Looker(place, told), name)(paper, *more), right)

    def test_lots_raise_as_best_lot(self):
        for calendar in [Calendar(2, 0, 4), Calendar(1, 0, 3)]:
            look = Looker(calendar, TWOS)
            for paper in [None, Lot((), (), {}, 0), Fill(())]:
                for value in [value for value in VALUES if not isinstance(value, (list, tuple))] + NO_ROWS:
                    self.refused(BadWish, {"at": None}, look.lots, paper, value)
                self.refused(TooMany, {"what": "wishes", "most": 8}, look.lots, paper, [None] * 9)
                for value in VALUES + [(Stay(0, 3), 1), (Stay(0, 2), True), [Stay(0, 2), 1], (Stay(2, 9), 1)]:
                    self.refused(BadWish, {"at": 1}, look.lots, paper, ((Stay(0, 2), 1), value))
                self.same(look.lots(paper=paper, wishes=[]), False)
        with self.assertRaises(Dead):
            best_lot(Calendar(1, 0, 3), TWOS, [])

    def test_lots_of_other_wishes(self):
        calendar, wishes = Calendar(1, 0, 4), [(Stay(0, 2), 3), (Stay(1, 3), 5), (Stay(2, 4), 0)]
        paper, look = best_lot(calendar, TWOS, wishes), Looker(calendar, TWOS)
        self.same(look.lots(paper, tuple(wishes)), True)
        for other in [wishes[:1], wishes[1:], [(Stay(0, 2), 4), *wishes[1:]], [(Stay(0, 2), 2), *wishes[1:]], [],
                      [*wishes, (Stay(0, 2), 3)], [*wishes, (Stay(2, 4), 1)], wishes[::-1]]:
            self.same(look.lots(paper, other), passes(self.is_lot, calendar, TWOS, other, paper))
        self.same([look.lots(paper, [(Stay(0, 2), 4), *wishes[1:]]), look.lots(paper, [])], [False, False])

    def test_numbers_of_any_size(self):
        calendar = Calendar(1, 0, 4)
        look, row = Looker(calendar, TWOS), (Stay(0, 2), Stay(2, 4))
        self.same(look.ranges(Rooms(1, None, None, row, (row,))), True)
        for far in [10 ** 59, -10 ** 59, 10 ** 12]:
            self.same([look.ranges(Rooms(far, None, None, row, (row,))), look.ranges(Rooms(1, far, None, row, (row,))),
                       look.ranges(Rooms(1, far, None, (0, 2), (row, row))), look.bars(Bar((0, far))),
                       look.gives(Gifts((), (far,), {})), look.lots(Lot((far,), row, {}, far), []),
                       look.ranges(NoRooms((far,), (far,), None)), look.ranges(NoRooms(None, None, (far,)))],
                      [False] * 8)

    def test_other_closed_sets_of_ranges(self):
        for calendar, book in CALENDARS[:120] + [two_fills()]:
            look, paper = Looker(calendar, book), rooms_for(calendar, book)
            days = range(calendar.first, calendar.after + 1)
            sets = [chosen for many in range(min(len(days), 8)) for chosen in itertools.combinations(days, many)]
            for part, chosen in itertools.product(["lower", "upper", "both"], sets[:80]):
                if hasattr(paper, part):
                    other = type(paper)(**{**vars(paper), part: chosen})
                    self.same(look.ranges(other), self.is_right(calendar, book, "ranges", other, ()))
                    alone = NoRooms(None, None, chosen) if part == "both" else NoRooms(None, chosen, None)
                    self.same(look.ranges(alone), self.is_right(calendar, book, "ranges", alone, ()))

    def test_numbers_that_are_not_the_ends(self):
        calendar, book = two_fills()
        look, paper = Looker(calendar, book), rooms_for(calendar, book)
        fills = {rooms: fill_of(calendar.with_rooms(rooms), book).stays for rooms in [3, 4, 5]}
        for fewest, most in itertools.product([3, 4, 5], [3, 4, 5, None]):
            filled = (fills[fewest],) if most in (None, fewest) else (fills[fewest], fills[most])
            told = Rooms(fewest, most, paper.lower, paper.upper, filled)
            self.same(look.ranges(told), (fewest, most) == (3, 5))

    def test_wrong_values(self):
        for value in none_of(Calendar):
            self.refused(BadCalendar, {"part": "calendar"}, Looker, value, value)
        for value in none_of(Book):
            self.refused(BadBook, {"part": "book"}, Looker, Calendar(1, 0, 1), value)
        self.defines(Looker, ["__init__", "fills", "bars", "climbs", "gives", "ranges", "lots"])

    def test_greatest(self):
        begin = time.perf_counter()
        source = shuffled(144, 1, lambda source: source)[0]
        for nights, book in itertools.product([1, 9], [Book.every(), SHORT, Book.none()]):
            calendar = with_guests(source, Calendar(12, -20, 20), 100, nights)
            look, wishes = Looker(calendar, book), some_wishes(source, calendar, book)
            for name, paper, more in papers_of(calendar, book, wishes):
                self.same(getattr(look, name)(paper, *more), True)
            self.same([look.fills(Fill((Stay(-20, -19),) * 3000)), look.bars(Bar(tuple(range(3000))))], [False, False])
        self.assertLess(time.perf_counter() - begin, 60)


def judged(source):
    book = some_small_book(source)
    return some_door(source, book), book


JUDGED = shuffled(145, 120, judged)


class Watched(Checks):
    """Mixed into a TestCase."""

    def is_story(self, door, book, live, stretch, paper):
        self.assertIs(type(paper), Story)
        self.assertIs(type(paper.stays), tuple)
        free, told = [(stretch.day, stretch.nights)], []
        for stay in paper.stays:
            self.assertIs(type(stay), Stay)
            place = next(place for place in free if place[0] <= stay.first and stay.after <= sum(place))
            self.same([stay in book, door(Stretch(*place), stay)], [True, True])
            free = [other for other in free if other != place] + parts_of(stay, *place)
            told.append(all(live(*part) for part in parts_of(stay, *place)))
        self.same(told, [True] * (len(told) - 1) + [False])

    def is_table(self, door, book, live, stretch, paper):
        self.assertIs(type(paper), Table)
        self.assertIs(type(paper.stretches), tuple)
        self.assertTrue(all(type(each) is Stretch and each.nights and each.day + each.nights <= LAST
                            and live(each.day, each.nights) for each in paper.stretches))
        places = [(each.day, each.nights) for each in paper.stretches]
        self.same(places, sorted(set(places)))
        self.assertTrue(stretch.nights == 0 or (stretch.day, stretch.nights) in places)
        for place in places:
            for stay in sales_of(door, book, *place):
                self.assertTrue(all(part[1] == 0 or part in places for part in parts_of(stay, *place)))


class WatcherTest(Watched, unittest.TestCase):
    def each(self):
        """Doors, books, live stretches, and what a story tells of them."""
        for door, book in JUDGED:
            live = Live(book, 20)
            for day, nights in itertools.product([0, -3, LAST - 13], [0, 1, 3, 4, 7, 9]):
                if live(day, nights):
                    yield door, book, live, Stretch(day, nights), story(door, book, Stretch(day, nights))

    def test_each_right_paper(self):
        found = []
        for door, book, _, stretch, paper in self.each():
            watch = Watcher(door, book)
            self.same([watch.tells(paper, stretch), watch.closed(paper, stretch)],
                      [type(paper) is Story, type(paper) is Table])
            found.append(type(paper))
        self.assertTrue(found.count(Story) > 50 and found.count(Table) > 50)

    def test_papers_with_one_part_otherwise(self):
        source, found = shuffled(146, 1, lambda source: source)[0], []
        for door, book, live, stretch, paper in self.each():
            watch = Watcher(door=door, book=book)
            for _ in range(5):
                other = changed_paper(source, paper)
                if type(paper) is Story:
                    right = passes(self.is_story, door, book, live, stretch, other)
                    self.same([watch.tells(paper=other, stretch=stretch), watch.closed(other, stretch)], [right, False])
                else:
                    right = passes(self.is_table, door, book, live, stretch, other)
                    self.same([watch.tells(other, stretch), watch.closed(paper=other, stretch=stretch)], [False, right])
                found.append((type(paper), right))
        for kind in [(Story, False), (Table, False), (Story, True)]:
            self.assertGreater(found.count(kind), 10, kind)

    def test_longer_stories_in_several_stretches(self):
        ones = Book(Lasts(Lengths.of(1, 3)))
        dead = Book(Lasts(Lengths.of(2, 3)))
        self.same(Watcher(All(), ones).tells(Story((Stay(0, 1),)), Stretch(0, 4)), False)
        watch = Watcher(All(), dead)
        rows = [((Stay(0, 2), Stay(3, 5)), True), ((Stay(4, 6), Stay(0, 3), Stay(6, 8), Stay(8, 10)), False),
                ((Stay(4, 6), Stay(0, 2), Stay(6, 8), Stay(9, 11)), True),
                ((Stay(4, 6), Stay(1, 3), Stay(6, 8)), False), ((Stay(4, 6), Stay(1, 3)), True),
                ((Stay(4, 6), Stay(0, 2), Stay(0, 2), Stay(9, 11)), False), ((Stay(4, 6), Stay(3, 5)), False),
                ((Stay(4, 6), Stay(0, 2), Stay(11, 13)), False), ((Stay(4, 6), Stay(5, 8)), False), ((), False),
                ((Stay(1, 3),), True), ((Stay(0, 4),), False), ((Stay(9, 10),), False), ((Stay(4, 6), 7), False)]
        for stays, told in rows:
            self.same(watch.tells(Story(stays), Stretch(0, 12)), told)
            self.same(watch.tells(Story(list(stays)), Stretch(0, 12)), False)

    def test_tables_that_hold_more(self):
        watch = Watcher(Weakest(TWOS), TWOS)
        part = [Stretch(0, 2), Stretch(0, 4), Stretch(2, 2)]
        self.same([watch.closed(Table(tuple(part)), Stretch(0, 4)), watch.closed(Table(tuple(part)), Stretch(0, 2)),
                   watch.closed(Table(tuple(part)), Stretch(0, 0)), watch.closed(Table(tuple(part)), Stretch(1, 2)),
                   watch.closed(Table(tuple(part[:2])), Stretch(0, 4)),
                   watch.closed(Table(tuple(part[:1])), Stretch(0, 2)),
                   watch.closed(Table((part[1], part[0], part[2])), Stretch(0, 4)),
                   watch.closed(Table((part[0], *part)), Stretch(0, 4)), watch.closed(Table(part), Stretch(0, 4)),
                   watch.closed(Table((Stretch(-9, 2), *part, Stretch(40, 2))), Stretch(0, 4)),
                   watch.closed(Table((*part, Stretch(40, 3))), Stretch(0, 4)),
                   watch.closed(Table((*part, Stretch(40, 0))), Stretch(0, 4)),
                   watch.closed(Table((*part, Stretch(40, None))), Stretch(0, 4)),
                   watch.closed(Table((*part, Stretch(LAST - 1, 2))), Stretch(0, 4)),
                   watch.closed(Table((*part, Stretch(LAST - 2, 2))), Stretch(0, 4)),
                   watch.closed(Table(()), Stretch(0, 0)), watch.closed(Table([]), Stretch(0, 0))],
                  [True, True, True, False, False, True, False, False, False, True, False, False, False, False, True,
                   True, False])

    def test_tables_of_long_stretches(self):
        begin = time.perf_counter()
        whole = Book(Lasts(Lengths.since(300)))
        table = Table((Stretch(0, 2), *[Stretch(9, nights) for nights in range(300, 401)]))
        self.same(Watcher(All(), whole).closed(table, Stretch(0, 0)), False)
        self.same(Watcher(Ahead(Lengths.of(0)) & Behind(Lengths.of(0)), whole).closed(
            Table(table.stretches[1:]), Stretch(0, 0)), True)
        self.same(Watcher(All(), whole).closed(Table(table.stretches[1:]), Stretch(0, 0)), False)
        alone = Watcher(Ahead(Lengths.of(0)) & (Behind(Lengths.of(0)) | Weakest(Book.every())), Book.every())
        steps = Table(tuple(Stretch(100 - nights, nights) for nights in range(100, 0, -1)))
        self.same([alone.closed(steps, Stretch(99, 1)), alone.closed(Table(steps.stretches[:-1]), Stretch(0, 0))],
                  [True, False])
        self.same(Watcher(All(), Book.every()).closed(Table((Stretch(0, 400),) * 1), Stretch(0, 0)), False)
        self.assertLess(time.perf_counter() - begin, 60)

    def test_doors_and_books_that_the_judge_refuses(self):
        great = Book(Lasts(Lengths.of(1, 390)))
        doors = [Lets(Comes(Days.on(5, 0))) & Lets(Comes(Days.on(3, 0))) & No(Lets(Comes(Days.on(7, 1)))),
                 Ahead(Lengths.of(398)), Weakest(great) | Some(), Behind(Lengths.steps(0, 400))]
        for door, book in itertools.product(doors, [great, Book(Lasts(Lengths.of(2, 80))), SHORT]):
            live = Live(book, 30)
            for stretch in [Stretch(-4, 8), Stretch(15, 12), Stretch(0, 30)]:
                came = walk(door, book, stretch.day, stretch.nights)
                table = Table(tuple(Stretch(*place) for place in sorted(came)))
                watch = Watcher(door, book)
                self.same(watch.closed(table, stretch), all(live(*place) for place in came))
                for stay in book.let_stays(stretch.day, stretch.day + stretch.nights):
                    told = passes(self.is_story, door, book, live, stretch, Story((stay,)))
                    self.same(watch.tells(Story((stay,)), stretch), told)
            self.refused(BadStretch, {"part": "stretch"}, watch.tells, None, Stretch(0, 31))

    def test_values_of_every_kind(self):
        watch = Watcher(CLERK, THREES)
        for value in VALUES:
            self.same([watch.tells(value, Stretch(0, 8)), watch.closed(value, Stretch(0, 8))], [False, False])
            self.same([watch.tells(Story(value), Stretch(0, 8)), watch.closed(Table(value), Stretch(0, 8))],
                      [False, False])
            self.same([watch.tells(Story((Stay(0, 3), value)), Stretch(0, 8)),
                       watch.closed(Table((Stretch(0, 3), value)), Stretch(0, 3)),
                       watch.tells(Story((value,)), Stretch(0, 8))], [False, False, False])
        self.same([watch.tells(Case(Stretch(0, 8), Stay(0, 3)), Stretch(0, 8)),
                   watch.tells(Table((Stay(0, 3),)), Stretch(0, 8)),
                   watch.closed(Story((Stretch(0, 3),)), Stretch(0, 3))],
                  [False, False, False])

    def test_wrong_values(self):
        for value in none_of(Door):
            self.refused(BadDoor, {"part": "door"}, Watcher, value, value)
        for value in none_of(Book):
            self.refused(BadBook, {"part": "book"}, Watcher, CLERK, value)
        watch = Watcher(CLERK, THREES)
        for stretch in none_of(Stretch) + [Stretch(0, None), Stretch(0, 31), Stretch(0, 400), Stretch(0, 5),
                                           Stretch(LAST - 2, 3), Stretch(0, 1), Stretch(3, 2)]:
            for paper in [None, Story((Stay(0, 3),)), Table((Stretch(0, 3),))]:
                for look in [watch.tells, watch.closed]:
                    self.refused(BadStretch, {"part": "stretch"}, look, paper, stretch)
        self.same([watch.closed(Table((Stretch(LAST - 3, 3),)), Stretch(LAST - 3, 3)),
                   watch.closed(Table(()), Stretch(LAST, 0))], [True, True])
        self.defines(Watcher, ["__init__", "closed", "tells"])


if __name__ == "__main__":
    unittest.main()
