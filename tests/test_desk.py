"""Points [2] and [14], and the heading nodeadnight/desk.py."""

import itertools
import time
import unittest

from nodeadnight.books import Book
from nodeadnight.calendars import Calendar
from nodeadnight.desk import Desk
from nodeadnight.errors import (
    BadCalendar, BadLine, BadWish, Dead, Full, Loose, NoDeed, NoGuest, NoHouse, NotLet, Outside, Taken, TooMany,
)
from nodeadnight.fills import is_sellable
from nodeadnight.houses import House
from nodeadnight.lengths import Lengths
from nodeadnight.ranges import rooms_for
from nodeadnight.reader import read_book
from nodeadnight.rules import Lasts
from nodeadnight.stays import Stay
from nodeadnight.wishes import best_lot, fates
from grammar import line_at, wrong_word
from house_model import Model, empty, some_deed
from papers import is_filled_by_hand, left_behind, name_of
from values import LAST, NO_STRINGS, VALUES, Checks, shuffled

SHORT = Book(Lasts(Lengths.of(2, 3)))

LINES = [
    "open 1 0 5 day 2 3", "open 12 -7 33 day 1 from 3 by 2 at 0 day none", "sell ann 0+2", "change ann 2+3",
    "cancel ann", "book day 1 2", "book day 2 3 day 1 from 3 by 1 at 0", "rooms 2", "undo", "free", "guests",
    "sells 0+2", "offers", "best 0+2 5", "best 0+2 5 2+3 1000000000 0+3 0", "numbers",
    "best " + " ".join(["0+2 1"] * 8), "open 3 999999999990 999999999999 day 1",
]
WORDS = sorted({word for line in LINES for word in line.split()}) + [
    "", "x", "0", "13", "-1", "-0", "01", "+1", "1.0", "999999999999", "1000000000000", "-999999999999", "1000000001",
    "9" * 30, "0+0", "0+400", "0+401", "0+02", "00+2", "-3+2", "0+-2", "999999999998+1", "999999999999+1", "3", "0+2+1",
    "Ann", "abcdefgh", "abcdefghi", "a1", "day", "none", "every", "from", "by", "at", "400", "399", "~", "guests\n",
]


def changed(source, line):
    """A line with one or two words put in, left out, doubled, exchanged or others."""
    words = line.split(" ")
    for _ in range(source.choice([1, 1, 1, 2])):
        at, other = source.randrange(len(words) + 1), source.randrange(max(1, len(words)))
        deed = source.choice(["in", "out", "double", "exchange", "other", "other", "end"])
        if deed == "in" or at >= len(words):
            words.insert(at, source.choice(WORDS))
        elif deed == "out":
            del words[at]
        elif deed == "double":
            words.insert(at, words[at])
        elif deed == "exchange":
            words[at], words[other] = words[other], words[at]
        elif deed == "other":
            words[at] = source.choice(WORDS)
        else:
            words = words[:at + 1]
    return " ".join(words)


def state_of(desk):
    """What a desk is: what its house tells, and what it takes back."""
    house = desk.house_now()
    if house is None:
        return None
    lines = ["guests", "free", "offers", "numbers"]
    told = [str(house.book), house.rooms, house.first, house.after, house.names, *[desk(line) for line in lines]]
    return told


class WordsTest(Checks, unittest.TestCase):
    def test_changed_lines(self):
        source, found = shuffled(151, 1, lambda source: source)[0], []
        for line in LINES * 120:
            other = changed(source, line)
            wrong = wrong_word(other, line_at)
            desk = Desk()
            if wrong is not None:
                for ask in [desk.ask, desk, desk.run]:
                    self.refused(BadLine, {"word": wrong}, ask, other)
            elif not other.startswith("open"):
                self.refused(NoHouse, {}, desk.ask, other)
            found.append((other.split(" ")[0], wrong))
        for word in ["open", "sell", "change", "cancel", "book", "rooms", "sells", "best"]:
            self.assertTrue({(word, at) for at in [None, 1, 2]} <= set(found), word)

    def test_each_word_in_the_place_of_each(self):
        for line in LINES:
            words = line.split(" ")
            for at, word in itertools.product(range(len(words)), WORDS):
                other = " ".join([*words[:at], word, *words[at + 1:]])
                wrong = wrong_word(other, line_at)
                if wrong is not None:
                    self.refused(BadLine, {"word": wrong}, Desk(), other)

    def test_known(self):
        for line, word in [
            ("", 0), (" ", 0), ("free ", 1), (" free", 0), ("free free", 1), ("sell", 1), ("sell ann", 2),
            ("sell ann 0+2 0+2", 3), ("sell  ann 0+2", 1), ("sell 0+2 ann", 1), ("open", 1), ("open 1 0 5", 4),
            ("open 13 0 5 day 2", 1), ("open 1 0 5 day", 5), ("open 1 0 5 day 2 2", 6), ("open 1 0 5 day 2 day 2", 4),
            ("open 1 0 5 day 2 day 2 x", 4), ("open 1 0 5 day 2 x", 6), ("open 1 0 5 day 3 from 4 by 1 at 0", 5),
            ("book day 1 day 1", 1), ("book " + "day 1 " * 6 + "day 2 day 3", 15), ("book", 1), ("rooms", 1),
            ("rooms 0", 1), ("rooms 2 2", 2), ("undo 1", 1), ("best", 1), ("best 0+2", 2), ("best 0+2 1 0+2", 4),
            ("best 0+2 -1", 2), ("best 0+2 1000000001", 2), ("best " + "0+2 1 " * 8 + "0+2 1", 17),
            ("best " + "0+2 1 " * 8, 17), ("sells", 1), ("numbers 3", 1), ("Open 1 0 5 day 2", 0), ("free\n", 0),
            ("guests\nfree", 0), ("open 1 1000000000000 5 day 2", 2), ("sell ann 999999999999+1", 2),
        ]:
            self.refused(BadLine, {"word": word}, Desk(), line)

    def test_values_that_are_no_strings(self):
        desk = Desk()
        for value in NO_STRINGS:
            for ask in [desk.ask, desk, desk.run, lambda line: desk.run("open 1 0 2 day 1", line)]:
                self.refused(BadLine, {"word": 0}, ask, value)
        for value in VALUES:
            if isinstance(value, str):
                self.refused(BadLine, {"word": 0}, desk.ask, value)
        self.same(desk.house_now(), None)

    def test_no_house(self):
        for line in LINES:
            if not line.startswith("open"):
                for ask in [Desk().ask, Desk(), Desk().run]:
                    self.refused(NoHouse, {}, ask, line)
        self.refused(NoHouse, {}, Desk(), "sell ann 77+400")
        self.refused(BadLine, {"word": 1}, Desk(), "sell Ann 77+400")


class AnswersTest(Checks, unittest.TestCase):
    def test_open(self):
        desk = Desk()
        self.same(desk.ask(line="open 2 -3 2 day 2 3"), "ok")
        house = desk.house_now()
        self.same([house == House(SHORT, 2, -3, 2), house.deeds], [True, 0])
        for line, error, fields in [
            ("open 1 0 0 day 1", BadCalendar, {"part": "after"}), ("open 1 5 4 day 1", BadCalendar, {"part": "after"}),
            ("open 1 0 41 day 1", BadCalendar, {"part": "after"}), ("open 1 0 1 day 2", Dead, {"bar": (0,)}),
        ]:
            self.refused(error, fields, desk, line)
            self.refused(error, fields, Desk(), line)
            self.same(desk.house_now() == house, True)
        desk("sell ann -3+2")
        self.same([desk("open 1 0 4 day 2"), desk("guests"), desk("free")], ["ok", "none", "1 1 1 1"])
        self.refused(NoDeed, {}, desk, "undo")

    def test_deeds(self):
        desk = Desk()
        self.same(desk.run("open 2 0 6 day 2 3", "sell bo 0+3", "sell ann 2+2", "change bo 0+2", "cancel ann",
                           "book day 1 2", "rooms 5", "guests", "free"),
                  ["ok", "ok", "ok", "ok", "2+2", "ok", "ok", "bo 0+2", "4 4 5 5 5 5"])
        self.same(desk.run(*["undo"] * 6), ["rooms", "book", "cancel", "change", "sell", "sell"])
        self.refused(NoDeed, {}, desk, "undo")

    def test_what_is_called_raises(self):
        desk = Desk()
        desk.run("open 2 0 5 day 2 3", "sell ann 0+2", "sell bo 0+3")
        before = state_of(desk)
        for line, error, fields in [
            ("sell ann 0+2", Taken, {"name": "ann"}), ("sell cy 4+2", Outside, {"stay": Stay(4, 6)}),
            ("sell cy 0+1", NotLet, {"stay": Stay(0, 1)}), ("sell cy 1+2", Full, {"night": 1}),
            ("sell cy 2+2", Dead, None), ("change cy 0+2", NoGuest, {"name": "cy"}),
            ("change ann 1+1", NotLet, {"stay": Stay(1, 2)}), ("change ann 5+2", Outside, {"stay": Stay(5, 7)}),
            ("change ann 1+2", Dead, None), ("cancel cy", NoGuest, {"name": "cy"}),
            ("book day 4", Loose, {"name": "ann"}), ("book day none", Loose, {"name": "ann"}),
            ("book day 2", Loose, {"name": "bo"}),
            ("rooms 1", Full, {"night": 0}), ("best 0+1 5", BadWish, {"at": 0}),
            ("best 0+2 5 4+2 1", BadWish, {"at": 1}),
        ]:
            for ask in [desk.ask, desk, desk.run]:
                if fields is None:
                    with self.assertRaises(error):
                        ask(line)
                else:
                    self.refused(error, fields, ask, line)
                self.same(state_of(desk), before)
        self.same([desk("undo"), desk("undo")], ["sell", "sell"])

    def test_guests(self):
        desk = Desk()
        self.same(desk.run("open 3 0 4 day 1 2", "guests", "sell cy 0+2", "guests", "sell ann 1+2", "sell bo 0+1",
                           "guests"),
                  ["ok", "none", "ok", "cy 0+2", "ok", "ok", "ann 1+2 ; bo 0+1 ; cy 0+2"])

    def test_too_many_guests(self):
        desk = Desk()
        desk.run("open 12 0 40 day 1", *[f"sell {name_of(at)} {at % 40}+1" for at in range(100)])
        self.refused(TooMany, {"what": "guests", "most": 100}, desk, "sell more 39+1")
        self.same([desk("sells 39+1"), desk("offers"), len(desk("guests").split(" ; "))], ["no", "none", 100])

    def test_best(self):
        desk = Desk()
        desk.run("open 1 0 4 day 2")
        self.same([desk("best 0+2 3 1+2 5 2+2 0"), desk("best 1+2 5"), desk("best 0+2 0"),
                   desk("best 0+2 1000000000 0+2 1000000000")],
                  ["3 all none some", "0 none", "0 some", "1000000000 some some"])
        self.same(desk("best " + "2+2 1 " * 7 + "2+2 2"), "2 none none none none none none none all")

    def test_numbers(self):
        desk = Desk()
        self.same(desk.run("open 2 0 4 day 1 2", "numbers", "sell ann 0+2", "sell bo 1+2", "numbers", "rooms 7",
                           "numbers"), ["ok", "1 -", "ok", "ok", "2 -", "ok", "2 -"])

    def test_against_the_methods(self):
        for parts in shuffled(152, 60, empty):
            source = shuffled(str(parts[1:]), 1, lambda source: source)[0]
            book, rooms, first, after = parts
            desk, house = Desk(), House(*parts)
            self.same(desk(f"open {rooms} {first} {after} {book}"), "ok")
            for _ in range(6):
                offers = list(house.offers())
                calendar = house.calendar_now()
                self.same(desk("offers"), " ".join(map(str, offers)) or "none")
                self.same(desk("free"), " ".join(map(str, calendar.free_rooms)))
                paper = rooms_for(calendar, book)
                self.same(desk("numbers"), f"{paper.fewest} {'-' if paper.most is None else paper.most}")
                for stay in [Stay(day, day + n) for day in range(first, after) for n in [1, 2, 3] if day + n <= LAST]:
                    self.same(desk(f"sells {stay}"), "yes" if stay in offers else "no")
                stays = list(book.let_stays(first, after))
                wishes = [(source.choice(stays), source.randint(0, 3)) for _ in range(source.randint(1, 8))]
                self.same(desk("best " + " ".join(f"{stay} {worth}" for stay, worth in wishes)),
                          " ".join([str(best_lot(calendar, book, wishes).worth), *fates(calendar, book, wishes)]))
                if not offers:
                    break
                name, stay = name_of(len(house)), source.choice(offers)
                house.sell(name, stay)
                self.same(desk(f"sell {name} {stay}"), "ok")
                self.same(desk.house_now() == house, True)

    def test_by_hand(self):
        # The answers to best and to numbers, tried one by one.
        desk = Desk()
        desk.run("open 2 0 5 day 2 3", "sell ann 0+2", "sell bo 3+2")
        calendar = Calendar(2, 0, 5)
        calendar["ann"], calendar["bo"] = Stay(0, 2), Stay(3, 5)
        spans = tuple((stay.first, stay.after) for stay in SHORT.let_stays(0, 5))
        wishes = [(Stay(0, 2), 4), (Stay(0, 3), 3), (Stay(2, 4), 2), (Stay(2, 5), 2), (Stay(3, 5), 1)]
        worths = [sum(wishes[at][1] for at in lot) for many in range(6)
                  for lot in itertools.combinations(range(5), many)
                  if is_filled_by_hand(left_behind(calendar, [wishes[at][0] for at in lot]), spans)]
        told = desk("best " + " ".join(f"{stay} {worth}" for stay, worth in wishes))
        self.same(told.split()[0], str(max(worths)))
        guests = [1, 1, 0, 1, 1]
        does = [rooms for rooms in range(1, 20) if is_filled_by_hand([rooms - many for many in guests], spans)]
        self.same(does, list(range(2, 20)))
        self.same(desk("numbers"), "2 -")


class RunTest(Checks, unittest.TestCase):
    def test_no_line_and_one(self):
        desk = Desk()
        self.same(desk.run(), [])
        self.same(desk.run("open 1 0 2 day 1"), ["ok"])
        self.same([desk.run(), desk.run("free"), desk("free")], [[], ["1 1"], "1 1"])

    def deeds_of(self, desk):
        """The words of all that can be taken back, taken back on the way."""
        words = []
        while True:
            try:
                words.append(desk("undo"))
            except NoDeed:
                return words

    def opened(self):
        desk = Desk()
        desk.run("open 2 0 5 day 2 3", "sell ann 0+2", "sell bo 0+3")
        return desk

    def test_a_line_that_raises_leaves_the_desk_as_it_was(self):
        lines = ["sell cy 2+3", "sell cy 3+2", "cancel bo", "cancel ann", "undo", "undo", "undo", "open 1 0 4 day 2",
                 "rooms 3", "rooms 2", "book day 1 2 3", "free", "offers", "x", "sell ann", "rooms 1", None]
        source, found = shuffled(154, 1, lambda source: source)[0], []
        for _ in range(250):
            told = source.choices(lines, k=source.randint(1, 5))
            alone, together, before = self.opened(), self.opened(), state_of(self.opened())
            answers, error = [], None
            for line in told:
                try:
                    answers.append(alone(line))
                except ValueError as caught:
                    error = caught
                    break
            if error is None:
                self.same(together.run(*told), answers)
                self.same(state_of(together), state_of(alone))
                self.same(self.deeds_of(together), self.deeds_of(alone))
            else:
                with self.assertRaises(type(error)):
                    together.run(*told)
                self.same(state_of(together), before)
                self.same(self.deeds_of(together), ["sell", "sell"])
            found.append((error is None, len(answers), "open 1 0 4 day 2" in told[:len(answers)]))
        for kind in [(True, 1, False), (True, 3, False), (False, 0, False), (False, 2, False), (False, 2, True)]:
            self.assertGreater(found.count(kind), 3, kind)

    def test_a_run_that_opens_another_house(self):
        desk = Desk()
        desk.run("open 2 0 5 day 2 3", "sell ann 0+2", "sell bo 0+3")
        told = state_of(desk)
        self.refused(BadLine, {"word": 0}, desk.run, "undo", "undo", "open 1 0 4 day 2", "sell cy 0+2", "undo", "no")
        self.same(state_of(desk), told)
        self.refused(NoDeed, {}, desk.run, "cancel ann", "open 1 0 4 day 2", "open 2 0 4 day 1", "rooms 3", "undo",
                     "undo")
        self.same([state_of(desk) == told, self.deeds_of(desk)], [True, ["sell", "sell"]])
        empty_desk = Desk()
        self.refused(BadLine, {"word": 1}, empty_desk.run, "open 1 0 4 day 2", "sell cy 0+2", "free x")
        self.same(empty_desk.house_now(), None)
        self.refused(NoHouse, {}, empty_desk, "free")

    def test_the_error_goes_on(self):
        desk = Desk()
        desk("open 1 0 4 day 2")
        self.refused(NotLet, {"stay": Stay(0, 3)}, desk.run, "sell ann 0+2", "sell bo 0+3")
        self.refused(Taken, {"name": "ann"}, desk.run, "sell ann 0+2", "sell ann 2+2")
        self.refused(NoDeed, {}, desk.run, "sell ann 0+2", "undo", "undo")
        self.same(desk("guests"), "none")

    def test_house_now_goes_its_own_way(self):
        desk = Desk()
        self.same(desk.house_now(), None)
        desk.run("open 1 0 4 day 2", "sell ann 0+2")
        house = desk.house_now()
        self.same([house.names, house.deeds], [("ann",), 0])
        house.cancel("ann")
        house.rooms = 5
        self.same(desk.run("guests", "free"), ["ann 0+2", "0 0 1 1"])
        other = desk.house_now()
        desk("cancel ann")
        self.same([other.names, desk("undo"), desk("undo")], [("ann",), "cancel", "sell"])

    def test_two_desks(self):
        one, other = Desk(), Desk()
        one("open 1 0 4 day 2")
        self.refused(NoHouse, {}, other, "free")
        other("open 2 0 4 day 1")
        self.same([one("free"), other("free"), one == other], ["1 1 1 1", "2 2 2 2", False])

    def test_class(self):
        self.defines(Desk, ["__init__", "ask", "__call__", "run", "house_now"])


class LinesTest(Checks, unittest.TestCase):
    def test_the_same_as_a_model(self):
        begin = time.perf_counter()
        for parts in shuffled(153, 50, empty):
            source = shuffled(str(parts[1:]), 1, lambda source: source)[0]
            book, rooms, first, after = parts
            desk, model = Desk(), Model(*parts)
            desk(f"open {rooms} {first} {after} {book}")
            for _ in range(20):
                word, arguments = some_deed(source, model)
                if word == "sell_all":
                    continue
                line = " ".join([word.removeprefix("set_"), *map(str, arguments)])
                try:
                    expected = getattr(model, word)(*arguments)
                except Exception as wrong:
                    with self.assertRaises(wrong.kind):
                        desk(line)
                else:
                    self.same(desk(line), "ok" if expected is None else str(expected))
                rows = sorted(model.rows, key=lambda row: row[0])
                self.same(desk("guests"), " ; ".join(f"{name} {stay}" for name, stay in rows) or "none")
                self.same(desk("free"), " ".join(map(str, model.free(model.rows))))
                self.same(desk.house_now().book == model.book, True)
        self.assertLess(time.perf_counter() - begin, 60)

    def test_greatest_book(self):
        text = " ".join(f"day {n + 1} from 50 by 1 at 0" for n in range(7))
        desk = Desk()
        book = read_book(text)
        self.same(is_sellable(Calendar(1, 0, 7), book), True)
        self.same([desk(f"open 1 0 7 {text}"), desk("offers") != "none"], ["ok", True])
        self.refused(BadLine, {"word": 60}, desk, f"open 1 0 7 {text} day 1")


if __name__ == "__main__":
    unittest.main()
