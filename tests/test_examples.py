"""Every example of the document, word for word."""

import unittest

EXAMPLES = {
    "lengths": r"""
>>> from nodeadnight.lengths import Lengths
>>> long, even = Lengths.since(3), Lengths.steps(0, 2)
>>> [str(long), str(even), str(long & even), str(long | Lengths.of(0, 1)), str(~even), str(~long), str(Lengths(9, [4, 8, 4], 4, [0]))]
['from 3 by 1 at 0', 'from 0 by 2 at 0', 'from 3 by 2 at 0', '0 1 from 3 by 1 at 0', 'from 0 by 2 at 1', '0 1 2', 'from 1 by 4 at 0']
>>> [10 ** 50 in even, long.last_gap, even.last_gap, Lengths.every().last_gap, long.at_least(0), Lengths.of(2, 5).at_least(6), even.below(7), even <= long, long.is_finite]
[True, 2, None, -1, 3, None, 4, False, False]
>>> Lengths.read("0 2 from 3 by 1 at 0")
raises BadText(0, 0)
>>> Lengths(2, [2])
raises BadLengths('low')
""",
    "days": r"""
>>> from nodeadnight.days import Days
>>> fri, sat = Days.on(7, 5), Days.on(7, 6)
>>> [str(fri | sat), fri >> 1 == sat, str(~Days.on(2, 0)), -2 in fri, sat.following(7), str(Days(4, [1, 3])), str(Days.on(2, 0) | Days.on(2, 1))]
['by 7 at 5 6', True, 'by 2 at 1', True, 13, 'by 2 at 1', 'every']
>>> Days.on(3, 0) & Days.on(7, 0)
raises TooMany('days', 7)
""",
    "stays": r"""
>>> from nodeadnight.stays import Stay
>>> week = Stay(3, 10)
>>> [str(week), len(week), list(Stay(3, 6)), 9 in week, 10 in week, [str(part) for part in week // 5], str(week << 5), week.meets(Stay(10, 12)), Stay.read("3+7") == week]
['3+7', 7, [3, 4, 5], True, False, ['3+2', '5+5'], '-2+7', False, True]
>>> week // 3
raises BadStay('day')
>>> Stay.read("3+07")
raises BadText(0, 0)
""",
    "rules": r"""
>>> from nodeadnight.rules import Both, Comes, DayRule, Goes, Holds, Lasts, NightRule, Not, Within
>>> short = Lasts(Lengths.of(1))
>>> no_lone_saturday = ~(Holds(Days.on(7, 6)) & short)
>>> [no_lone_saturday(Stay(6, 7)), no_lone_saturday(Stay(6, 8)), no_lone_saturday(Stay(0, 1)), no_lone_saturday.size, isinstance(Holds(Days.every()), NightRule)]
[False, True, True, 4, True]
>>> [str(no_lone_saturday), str(Comes(fri) - Goes(~sat)), ~~short == short]
['not and holds by 7 at 6 lasts 1', 'and comes by 7 at 5 not goes by 7 at 0 1 2 3 4 5', True]
>>> Comes(7)
raises BadRule('days')
""",
    "books": r"""
>>> from nodeadnight.books import Book
>>> book = Book(Lasts(Lengths.since(2)) | Comes(Days.on(7, 1)))
>>> [book.round, str(book.lengths_on(0)), str(book.lengths_on(8)), Stay(1, 2) in book, book(Stay(2, 3)), book.lets(0, 10 ** 30), "3+4" in book]
[7, 'from 2 by 1 at 0', 'from 1 by 1 at 0', True, False, True, False]
>>> [[str(stay) for stay in book.let_stays(0, 3)], book <= Book.every(), (book - Book(short)) == Book(Lasts(Lengths.since(2)))]
[['0+2', '0+3', '1+1', '1+2'], True, True]
>>> pairs = Book(Comes(Days.on(3, 0)) & Goes(Days.on(2, 0)))
>>> [pairs.round, str(pairs.lengths_on(0)), str(pairs.lengths_on(3)), pairs.size, Book.by_days(Lengths.of(2), Lengths.of(2)).round, str(Book(Lasts(Lengths.of(3, 4))))]
[6, 'from 1 by 2 at 0', 'from 0 by 2 at 1', 7, 1, 'day 3 4']
>>> Book(Comes(Days.on(5, 0)) & Goes(Days.on(3, 0)))
raises TooMany('round', 7)
""",
    "stretches": r"""
>>> from nodeadnight.stretches import Stretch, alive, fewest, fillable, is_live, most, row_of, rows_of, ways
>>> threes = Book(Lasts(Lengths.of(3, 4)))
>>> [str(fillable(threes, 0)), fillable(threes, 0).last_gap, [str(stay) for stay in row_of(threes, 10, 7)], row_of(threes, 0, 5), row_of(threes, 0, 0), fewest(threes, 0, 12), most(threes, 0, 12), ways(threes, 0, 11)]
['0 3 4 from 6 by 1 at 0', 5, ['10+3', '13+4'], None, (), 3, 4, 3]
>>> back = Book(Comes(Days.on(7, 5)) & Lasts(Lengths.of(2)) | Comes(Days.on(7, 0)) & Lasts(Lengths.of(5, 3)))
>>> [str(fillable(back, 5)), str(fillable(back, 1)), str(alive(back)), is_live(back, Stretch(0, 3)), is_live(back, Stretch(0, None)), is_live(back, Stretch(3, None))]
['from 0 by 7 at 0 2 5', '0', 'by 7 at 0 5', True, True, False]
>>> [str(part) for part in Stretch(2, None) - Stay(4, 6)]
['2+2', '6+']
""",
    "primes": r"""
>>> from nodeadnight.primes import alike, missing, primes
>>> [str(primes(Book(Lasts(Lengths.since(2)))).lengths_on(0)), str(primes(book).lengths_on(0)), str(primes(book).lengths_on(1)), alike(book, primes(book)), missing(threes, Book(Lasts(Lengths.since(3)))), missing(Book(Lasts(Lengths.since(2))), threes)]
['2 3', '2 3', '1 2', True, (0, 5), None]
""",
    "calendars": r"""
>>> from nodeadnight.calendars import Calendar
>>> inn = Calendar(2, 0, 3)
>>> inn["ann"], inn["bo"] = Stay(0, 2), Stay(2, 3)
>>> [inn.free_rooms, [inn.supply(day) for day in range(4)], inn.free(2), len(inn), "bo" in inn, str(inn["ann"]), inn.room_plan(), list(inn)]
[(1, 1, 1), [1, 0, 0, -1], 1, 2, True, '0+2', {'ann': 0, 'bo': 0}, ['ann', 'bo']]
>>> inn.tried(lambda same: [str(same.drop("ann")), same.free_rooms])
['0+2', (2, 2, 1)]
>>> [(name, str(stay)) for name, stay in inn.guests()]
[('ann', '0+2'), ('bo', '2+1')]
>>> inn.drop("cy")
raises NoGuest('cy')
>>> inn.with_rooms(1).free_rooms
(0, 0, 0)
""",
    "fills": r"""
>>> from nodeadnight.fills import Bar, Climb, Fill, climb_of, fewest_stays, fill_of, is_sellable, most_stays
>>> pairs_and_threes = Book(Lasts(Lengths.of(2, 3)))
>>> [fill_of(inn, pairs_and_threes) == Fill((Stay(0, 3),)), is_sellable(Calendar(2, 0, 5), threes), fill_of(Calendar(1, 0, 1), threes) == Bar((0,))]
[True, False, True]
>>> odd = Calendar(2, 0, 3)
>>> odd["ann"] = Stay(0, 2)
>>> [fill_of(odd, pairs_and_threes) == Bar((2,)), len(fewest_stays(Calendar(1, 0, 6), pairs_and_threes).stays), len(most_stays(Calendar(1, 0, 6), pairs_and_threes).stays)]
[True, 2, 3]
>>> climb_of(odd, {0: 0, 1: 0, 2: -1, 3: 0})
1
""",
    "gifts": r"""
>>> from nodeadnight.gifts import fewest_gifts
>>> given = fewest_gifts(odd, pairs_and_threes)
>>> [len(given.nights), climb_of(odd, given.heights), fewest_gifts(Calendar(1, 0, 5), Book(Lasts(Lengths.of(2)))).nights in ((0,), (2,), (4,)), fewest_gifts(inn, pairs_and_threes).nights]
[1, 1, True, ()]
""",
    "ranges": r"""
>>> from nodeadnight.ranges import NoRooms, Rooms, rooms_for
>>> twos = Book(Lasts(Lengths.of(2)))
>>> full = Calendar(1, 0, 3)
>>> full["ann"], full["bo"] = Stay(0, 1), Stay(1, 3)
>>> [rooms_for(full, twos) == Rooms(1, 1, None, (0, 2), ((),)), rooms_for(Calendar(1, 0, 3), twos) == NoRooms(None, (0, 2), None), rooms_for(Calendar(1, 0, 4), twos).upper == (Stay(0, 2), Stay(2, 4))]
[True, True, True]
""",
    "wishes": r"""
>>> from nodeadnight.wishes import Lot, best_lot, can_take, fates
>>> four = Calendar(1, 0, 4)
>>> asked = [(Stay(0, 2), 3), (Stay(1, 3), 5), (Stay(2, 4), 0)]
>>> lot = best_lot(four, twos, asked)
>>> [0 in lot.taken, 1 in lot.taken, lot.worth, fates(four, twos, asked), can_take(four, twos, [Stay(0, 2), Stay(2, 4)]), can_take(four, twos, [Stay(1, 3)])]
[True, False, 3, ['all', 'none', 'some'], True, False]
>>> best_lot(four, twos, [(Stay(0, 3), 1)])
raises BadWish(0)
""",
    "doors": r"""
>>> from nodeadnight.doors import Ahead, All, Behind, Lets, No, Some, Weakest
>>> rest = Lengths.of(0) | Lengths.since(3)
>>> clerk, week8 = Ahead(rest) & Behind(rest), Stretch(0, 8)
>>> [clerk(week8, Stay(0, 3)), Weakest(threes)(week8, Stay(0, 3)), Weakest(threes)(week8, Stay(0, 4)), clerk(week8, Stay(0, 7)), clerk(Stretch(0, None), Stay(4, 5)), Weakest(threes)(Stretch(0, None), Stay(3, 6))]
[True, False, True, False, True, True]
>>> [str(clerk), (~clerk).size, All()(week8, Stay(0, 1)), Some()(week8, Stay(0, 1))]
['all 2 ahead 0 from 3 by 1 at 0 behind endless 0 from 3 by 1 at 0', 4, True, False]
>>> clerk(week8, Stay(7, 9))
raises Outside
""",
    "judge": r"""
>>> from nodeadnight.judge import Case, Story, Table, is_safe, parted, story, thumb
>>> [parted(clerk, Weakest(threes), threes) == Case(Stretch(0, 8), Stay(0, 3)), thumb(threes), thumb(twos), is_safe(Weakest(threes), threes)]
[True, 6, None, True]
>>> [story(clerk, threes, Stretch(0, 8)).stays in ((Stay(0, 3),), (Stay(5, 8),)), story(clerk, threes, Stretch(0, 7)) == Table((Stretch(0, 3), Stretch(0, 4), Stretch(0, 7), Stretch(3, 4), Stretch(4, 3)))]
[True, True]
""",
    "houses": r"""
>>> from nodeadnight.houses import House
>>> house = House(pairs_and_threes, 1, 0, 5)
>>> [[str(stay) for stay in house.offers()], house.sells(Stay(1, 3)), house.sells(Stay(0, 4))]
[['0+2', '0+3', '2+3', '3+2'], False, False]
>>> house["ann"] = Stay(0, 3)
>>> house.sell("bo", Stay(2, 5))
raises Full(2)
>>> house.change("ann", Stay(0, 2))
>>> [[str(stay) for stay in house.offers()], house.deeds, house.undo(), str(house["ann"]), house.fill_now() == Fill((Stay(3, 5),))]
[['2+3'], 2, 'change', '0+3', True]
>>> House(threes, 2, 0, 5)
raises Dead((0, 3, 4))
""",
    "lookers": r"""
>>> from nodeadnight.gifts import Gifts
>>> from nodeadnight.lookers import Looker, Watcher
>>> look = Looker(odd, pairs_and_threes)
>>> [look.bars(Bar((2,))), look.bars(Bar((0, 2, 3))), look.fills(Fill(())), look.gives(given), look.climbs(Climb((), {}), "fewest"), look.ranges(rooms_for(odd, pairs_and_threes))]
[True, False, False, True, False, True]
>>> watch = Watcher(clerk, threes)
>>> [watch.tells(Story((Stay(5, 8),)), Stretch(0, 8)), watch.tells(Story((Stay(0, 4),)), Stretch(0, 8)), watch.closed(Table((Stretch(0, 3),)), Stretch(0, 3)), watch.closed(Table(()), Stretch(0, 3))]
[True, False, True, False]
""",
    "reader": r"""
>>> from nodeadnight.reader import read_book, read_calendar, read_door, read_rule
>>> from nodeadnight.texts import calendar_text
>>> [read_rule(str(no_lone_saturday)) == no_lone_saturday, read_door(str(clerk)) == clerk, read_book("day 3 4") == threes, calendar_text(odd), read_calendar(calendar_text(inn)) == inn]
[True, True, True, 'calendar 2 0 3\nguest ann 0+2', True]
>>> read_rule("and comes by 7 at 5")
raises BadText(0, 6)
>>> read_rule("lasts 2 3 from 4 by 1 at 0")
raises BadText(0, 1)
>>> read_door("all 1 ahead 1 2 1")
raises BadText(0, 5)
>>> read_calendar("calendar 1 0 4\nguest bo 0+2\nguest al 2+2")
raises BadText(2, 1)
""",
    "desk": r"""
>>> from nodeadnight.desk import Desk
>>> desk = Desk()
>>> desk.run("open 1 0 5 day 2 3", "sell ann 0+2", "offers", "free", "numbers", "best 2+3 7", "undo", "guests")
['ok', 'ok', '2+3', '0 0 1 1 1', '1 -', '7 all', 'sell', 'none']
>>> [desk("sells 1+2"), desk("rooms 2"), desk("free")]
['no', 'ok', '2 2 2 2 2']
>>> desk("sell ann 0+02")
raises BadLine(2)
""",
}


def pairs(text):
    """The lines behind the prompts, each with what is told below it."""
    found = []
    for line in text.strip().split("\n"):
        if line.startswith(">>> "):
            found.append([line[4:], ""])
        else:
            found[-1][1] += line
    return found


def outcome(line, names, told):
    """What a line shows in the words of the document: a value, an error, or nothing."""
    try:
        code = compile(line, "example", "eval")
    except SyntaxError:
        exec(line, names)
        return ""
    try:
        value = eval(code, names)
        return "" if value is None else repr(value)
    except ValueError as error:
        # Of some errors the document tells the class alone.
        return f"raises {type(error).__name__}" if told == f"raises {type(error).__name__}" else f"raises {error!r}"


class ExamplesTest(unittest.TestCase):
    def test_examples(self):
        names = {}
        for module in EXAMPLES:
            for line, told in pairs(EXAMPLES[module]):
                with self.subTest(module=module, line=line):
                    self.assertEqual(outcome(line, names, told), told)


if __name__ == "__main__":
    unittest.main()
