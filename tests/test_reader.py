"""Points [2], [4], [7] and [13], and of the headings of the texts all that is told of nodeadnight/reader.py."""

import unittest

from nodeadnight.books import Book
from nodeadnight.calendars import Calendar
from nodeadnight.days import Days
from nodeadnight.doors import Ahead, All, Behind, Lets, No, Some, Weakest
from nodeadnight.errors import BadText, Full, Outside, TooMany
from nodeadnight.lengths import Lengths
from nodeadnight.reader import read_book, read_calendar, read_door, read_rule
from nodeadnight.rules import Both, Comes, Either, Goes, Holds, Lasts, Not, Within
from nodeadnight.stays import Stay
from grammar import book_at, door_at, rule_at, wrong_word
from values import LAST, NO_STRINGS, Checks, shuffled

MANY_RULES = {"what": "rules", "most": 30}
MANY_DOORS = {"what": "doors", "most": 30}

READERS = [(read_rule, rule_at), (read_door, door_at), (read_book, book_at)]


def some_lengths(source):
    start, period = source.choice([0, 1, 3, 9, 380]), source.choice([1, 1, 2, 5, 12])
    low = [n for n in range(start) if source.random() < 2 / (start + 1)]
    return Lengths(start, low, period, [n for n in range(period) if source.random() < 0.4])


def some_days(source):
    period = source.randrange(1, 8)
    return Days(period, [n for n in range(period) if source.random() < 0.5])


def some_book(source):
    return Book.by_days(*[some_lengths(source) for _ in range(source.choice([1, 1, 2, 3, 7]))])


def some_rule(source, deep=3):
    kind = source.choice([Comes, Goes, Holds, Within, Lasts, Both, Either, Not] if deep else [Comes, Lasts])
    if kind in (Both, Either):
        return kind(some_rule(source, deep - 1), some_rule(source, deep - 1))
    if kind is Not:
        return Not(some_rule(source, deep - 1))
    return kind(some_lengths(source) if kind is Lasts else some_days(source))


def some_door(source, deep=3):
    kind = source.choice([Ahead, Behind, Lets, Weakest, All, Some, No] if deep else [Ahead, Lets])
    if kind in (All, Some):
        return kind(*[some_door(source, deep - 2 if deep > 1 else 0) for _ in range(source.randrange(4))])
    if kind is No:
        return No(some_door(source, deep - 1))
    if kind is Behind:
        return Behind(some_lengths(source), source.random() < 0.5)
    if kind is Ahead:
        return Ahead(some_lengths(source))
    return Lets(some_rule(source, 2)) if kind is Lets else Weakest(some_book(source))


RULES = shuffled(111, 150, some_rule)
DOORS = shuffled(112, 150, some_door)
BOOKS = shuffled(113, 80, some_book)

# Words that stand in texts, and such as stand nowhere.
WORDS = [
    "comes", "goes", "holds", "within", "lasts", "and", "or", "not", "ahead", "behind", "endless", "lets", "weakest",
    "all", "some", "no", "day", "none", "every", "from", "by", "at", "0", "1", "2", "3", "6", "7", "8", "12", "29",
    "30", "398", "399", "400", "401", "00", "01", "007", "-1", "+1", "-0", "1.0", "1_0", "", "x",
    "Day", "day\n", "\n", "0\n", "9" * 30, "0" * 30, "~", "none,",
]


def changed(source, text):
    """A text with one or two words put in, left out, doubled, exchanged or others."""
    words = text.split(" ")
    for _ in range(source.choice([1, 1, 2])):
        at, other = source.randrange(len(words) + 1), source.randrange(len(words) + 1)
        deed = source.choice(["in", "out", "double", "exchange", "other", "cut", "cross"])
        if deed == "in" or at == len(words):
            words.insert(at, source.choice(WORDS))
        elif deed == "out":
            words = words[:at] + words[at + 1:] or [""]
        elif deed == "double":
            words.insert(at, words[at])
        elif deed == "exchange" and other < len(words):
            words[at], words[other] = words[other], words[at]
        elif deed == "cut":
            words = words[:at] or [""]
        elif deed == "cross":
            words = words[:at] + words[other:] or [""]
        else:
            words[at] = source.choice(WORDS)
    return " ".join(words)


class ReadBackTest(Checks, unittest.TestCase):
    def test_rules(self):
        for rule in RULES:
            read = read_rule(text=str(rule))
            self.same([read == rule, str(read) == str(rule)], [True, True])

    def test_doors(self):
        for door in DOORS:
            read = read_door(text=str(door))
            self.same([read == door, str(read) == str(door)], [True, True])

    def test_books(self):
        for book in BOOKS + [Book.every(), Book.none()]:
            read = read_book(text=str(book))
            self.same([read == book, str(read) == str(book)], [True, True])

    def test_order_of_inner_ones(self):
        one, other, last = Lasts(Lengths.of(1)), Comes(Days.on(7, 2)), Goes(Days.none())
        self.assertEqual(read_rule("and lasts 1 comes by 7 at 2"), Both(one, other))
        self.assertEqual(read_rule("or and lasts 1 not comes by 7 at 2 goes none"), Either(Both(one, Not(other)), last))
        self.assertEqual(read_rule("or goes none and lasts 1 comes by 7 at 2"), Either(last, Both(one, other)))
        door = read_door("some 3 all 2 ahead 1 behind 2 no all 0 behind endless 3")
        self.assertEqual(door, Some(All(Ahead(Lengths.of(1)), Behind(Lengths.of(2), False)), No(All()),
                                    Behind(Lengths.of(3))))

    def test_items_of_the_example(self):
        no_lone_saturday = ~(Holds(Days.on(7, 6)) & Lasts(Lengths.of(1)))
        rest = Lengths.of(0) | Lengths.since(3)
        clerk, threes = Ahead(rest) & Behind(rest), Book(Lasts(Lengths.of(3, 4)))
        self.same([read_rule(str(no_lone_saturday)) == no_lone_saturday, read_door(str(clerk)) == clerk,
                   read_book("day 3 4") == threes], [True, True, True])
        odd = Calendar(2, 0, 3)
        odd["ann"] = Stay(0, 2)
        self.same(read_calendar("calendar 2 0 3\nguest ann 0+2") == odd, True)

    def test_greatest(self):
        rule = Both(Not(Lasts(Lengths.of(1))), Comes(Days.every()))
        while rule.size < 29:
            rule = Not(rule) if rule.size % 3 else Either(Lasts(Lengths.none()), rule)
        for full in [Not(rule) if rule.size == 29 else rule, All(*[Ahead(Lengths.of(0))] * 29)]:
            reader = read_rule if full.size == 30 and not isinstance(full, All) else read_door
            self.assertEqual(reader(str(full)), full)


class WrongWordTest(Checks, unittest.TestCase):
    def check(self, reader, part_at, text):
        """Checks a text against the second reader; tells whether all its words can stand."""
        at = wrong_word(text, part_at)
        if at is not None:
            self.refused(BadText, {"line": 0, "word": at}, reader, text)
            return False
        try:
            read = reader(text)
        except TooMany:
            return True
        self.same(str(read), text)
        return True

    def test_changed_texts(self):
        texts = [(read_rule, rule_at, RULES), (read_door, door_at, DOORS), (read_book, book_at, BOOKS)]
        for reader, part_at, told in texts:
            for seed, one in enumerate(told):
                for text in shuffled(seed, 60, lambda source: changed(source, str(one))):
                    self.check(reader, part_at, text)

    def test_texts_of_another_kind(self):
        for told in [RULES, DOORS, BOOKS]:
            for one in told[:40]:
                for reader, part_at in READERS:
                    self.check(reader, part_at, str(one))

    def test_no_strings(self):
        for reader in [read_rule, read_door, read_book, read_calendar]:
            for value in NO_STRINGS:
                self.refused(BadText, {"line": 0, "word": 0}, reader, value)

    def wrong(self, reader, rows):
        for text, word in rows:
            self.refused(BadText, {"line": 0, "word": word}, reader, text)

    def test_rules(self):
        self.wrong(read_rule, [
            ("", 0), (" ", 0), ("comes", 1), ("comes ", 1), (" comes every", 0), ("comes every ", 2),
            ("comes  every", 1), ("comes every every", 2), ("Comes every", 0), ("rule", 0), ("and comes every", 3),
            ("and", 1), ("not", 1), ("not not", 2), ("and comes by 7 at 5", 6), ("and comes every not", 4),
            ("comes every goes none", 2), ("lasts every", 1), ("comes 3", 1), ("comes from 0 by 1 at 0", 1),
            ("lasts by 7 at 5", 1), ("comes every\n", 1), ("day 3", 0), ("ahead 3", 0), ("lasts 1\nlasts 2", 1),
        ])

    def test_days_within(self):
        self.wrong(read_rule, [
            ("comes by", 2), ("comes by 7", 3), ("comes by 7 at", 4), ("comes by 8 at 0", 2), ("comes by 0 at 0", 2),
            ("comes by 07 at 0", 2), ("comes by -1 at 0", 2), ("comes by 7 at 7", 4), ("comes by 7 at 0 7", 5),
            ("comes by 7 at 3 2", 5), ("comes by 7 at 3 3", 5), ("comes by 7 at 3 04", 5), ("comes by 7 at 3 -4", 5),
            ("comes by 1 at 0", 1), ("comes by 4 at 1 3", 1), ("comes by 4 at 1 3 x", 1), ("comes by 4 at 1 3 4", 6),
            ("comes by 7 at 0 1 2 3 4 5 6", 1), ("comes by 7 at 5 x", 5), ("comes none 0", 2), ("comes every 0", 2),
            ("and comes by 2 at 0 1 x", 2), ("and comes by 2 at 0 1 goes x", 2), ("comes by 7 by 0", 3),
            ("comes by 7 at none", 4), ("comes by 7 at 399", 4), ("comes by 7 at 400", 4),
        ])

    def test_lengths_within(self):
        self.wrong(read_rule, [
            ("lasts", 1), ("lasts ", 1), ("lasts x", 1), ("lasts 01", 1), ("lasts -1", 1), ("lasts 400", 1),
            ("lasts 399", 1), ("lasts 0 399", 1), ("lasts 3 3", 2), ("lasts 3 2", 2), ("lasts 3 04", 2),
            ("lasts 3 400", 2), ("lasts 3 -4", 2), ("lasts 3 4 x", 3), ("lasts 3 from", 3), ("lasts 3 from 3", 3),
            ("lasts 3 from 2 by 1 at 0", 3), ("lasts from 401 by 1 at 0", 2), ("lasts from 400 by 1 at 0", 1),
            ("lasts 399 from 400 by 1 at 0", 1), ("lasts from 0 by 0 at 0", 4), ("lasts from 0 by 401 at 0", 4),
            ("lasts from 0 by 400 at 400", 6), ("lasts from 1 by 400 at 1", 1), ("lasts from 1 by 400 at 0", 1),
            ("lasts from 0 by 2 at 2", 6), ("lasts from 0 by 2 at 0 1", 1), ("lasts from 0 by 4 at 0 2", 1),
            ("lasts from 0 by 4 at 0 2 4", 8), ("lasts from 0 by 4 at 0 2 x", 1), ("lasts from 0 by 4 at 0 -2", 7),
            ("lasts 2 3 from 4 by 1 at 0", 1), ("lasts 2 3 from 4 by 1 at 0 lasts", 1), ("lasts from 0 at 1", 3),
            ("lasts from 0 by 4 at", 6), ("lasts from", 2), ("lasts from 0", 3), ("lasts from 0 by", 4),
            ("lasts none 0", 2), ("lasts none from 0 by 1 at 0", 2), ("lasts 0 none", 2), ("lasts from 0 by 9 at x", 6),
            ("lasts 1 2 " + "3" * 2000, 3), ("lasts " + "7" * 5000, 1), ("lasts from 3 by 1 at 0 1", 7),
            ("and lasts 0 1 from 2 by 1 at 0", 2), ("lasts 5 from 5 by 2 at 0", 3), ("lasts 4 from 5 by 2 at 0", 1),
        ])

    def test_doors(self):
        self.wrong(read_door, [
            ("", 0), ("all", 1), ("all x", 1), ("all 30", 1), ("all 01", 1), ("all -1", 1), ("all 2 all 0", 4),
            ("all 0 all 0", 2), ("all 1 ahead 1 2 1", 5), ("some 1", 2), ("some 29", 2), ("no", 1), ("no 1", 1),
            ("behind", 1), ("behind endless", 2), ("behind endless endless 1", 2), ("ahead endless 1", 1),
            ("behind 1 endless", 2), ("lets", 1), ("lets ahead 1", 1), ("lets not", 2), ("lets lasts 1 2 ahead 1", 4),
            ("weakest", 1), ("weakest lasts 1", 1), ("weakest day", 2), ("weakest day 0", 1), ("weakest day 0 x", 1),
            ("all 2 weakest day 2 day 2 x", 3), ("all 2 weakest day 2 day 3 x", 7), ("all 1 weakest day 2 day 2", 3),
            ("weakest day 2 day 2 2", 5), ("weakest day 1 day 2 from", 6), ("comes every", 0), ("all 1 1", 2),
            ("all 1 lets comes every x", 5), ("no no no x", 3), ("no no no", 3), ("all 2 ahead 1 2", 5),
        ])

    def test_books(self):
        self.wrong(read_book, [
            ("", 0), ("day", 1), ("days 3", 0), ("3", 0), ("day 3 4 day", 4), ("day 3 4 day 3 4", 0), ("day 0", 0),
            ("day 0 3", 0), ("day from 0 by 1 at 0", 0), ("day 3 4 x", 3), ("day 0 3 x", 0), ("day 3 day 3 x", 0),
            ("day 3 day 4 day 3 day 4", 0), ("day 3 day", 3), ("day 4 3", 2), ("day 3 none", 2), ("day none 3", 2),
            ("day none day none", 0), ("day from 0 by 400 at 0", 0), ("day from 5 by 2 at 1", 1), ("day 2 from 3", 4),
            ("day 1 day 2 day 3 day 4 day 5 day 6 day 7 day 8", 14), ("day 3 day 0", 0), ("day 3  day 4", 2),
            (" ".join(["day 1"] * 8), 0), (" ".join(["day 1"] * 7), 0), ("day 3 day 4 ", 4), ("day 3 day 2 from 2", 5),
            ("day 0 day 1 day 2 day 3 day 4 day 5 day 6 day 7", 0), ("day 1 day 2 day 3 day 4 day 5 day 6 day 7 7", 14),
        ])

    def test_a_day_of_the_greatest_book(self):
        self.same(str(read_book("day 1 day 2 day 3 day 4 day 5 day 6 day 7")),
                  "day 1 day 2 day 3 day 4 day 5 day 6 day 7")
        self.same(str(read_book("day none day 2 day from 399 by 1 at 0")), "day none day 2 day from 399 by 1 at 0")
        self.same(str(read_book("day from 0 by 400 at 399 day 398")), "day from 0 by 400 at 399 day 398")


class DeepTest(Checks, unittest.TestCase):
    def test_too_many_rules(self):
        self.same(read_rule("not " * 29 + "lasts 1").size, 30)
        for many in [30, 31, 700, 20000]:
            self.refused(TooMany, MANY_RULES, read_rule, "not " * many + "lasts 1")
        self.refused(TooMany, MANY_RULES, read_rule, "and lasts 1 " * 5000 + "lasts 1")
        self.refused(TooMany, MANY_RULES, read_rule, "or " * 5000 + "lasts 1 " * 5000 + "lasts 1")
        self.refused(TooMany, MANY_RULES, read_rule, "and lasts 1 " * 15 + "lasts 1")
        self.same(read_rule("and lasts 1 " * 14 + "lasts 1").size, 29)

    def test_too_many_doors(self):
        self.same(read_door("no " * 29 + "all 0").size, 30)
        for many in [30, 31, 900, 20000]:
            self.refused(TooMany, MANY_DOORS, read_door, "no " * many + "all 0")
        self.same(read_door("all 29 " + "all 0 " * 28 + "all 0").size, 30)
        self.refused(TooMany, MANY_DOORS, read_door, "all 29 " + "all 0 " * 28 + "no all 0")
        self.refused(TooMany, MANY_DOORS, read_door, "all 1 " * 5000 + "some 0")

    def test_wrong_words_ahead_of_too_many(self):
        self.refused(BadText, {"line": 0, "word": 801}, read_rule, "not " * 800 + "lasts")
        self.refused(BadText, {"line": 0, "word": 802}, read_rule, "not " * 800 + "lasts 1 x")
        self.refused(BadText, {"line": 0, "word": 800}, read_door, "no " * 800 + "lasts 1")
        self.refused(BadText, {"line": 0, "word": 2 * 500}, read_door, "all 29 " * 499 + "all 29")
        self.refused(BadText, {"line": 0, "word": 10000}, read_rule, "and " * 10000 + "x")
        self.refused(BadText, {"line": 0, "word": 41}, read_door, "all 2 lets " + "not " * 36 + "lasts 1 x")

    def test_inner_ones_are_made_first_from_the_left(self):
        rules, doors = "not " * 30 + "lasts 1", "no " * 30 + "all 0"
        self.refused(TooMany, MANY_RULES, read_door, f"all 2 lets {rules} {doors}")
        self.refused(TooMany, MANY_DOORS, read_door, f"all 2 {doors} lets {rules}")
        self.refused(TooMany, MANY_RULES, read_door, "no " * 40 + "lets " + rules)
        self.refused(TooMany, MANY_DOORS, read_door, f"all 3 all 0 {doors} lets {rules}")
        self.refused(TooMany, MANY_RULES, read_door, f"all 29 {'all 0 ' * 28}no lets {rules}")


class CalendarTest(Checks, unittest.TestCase):
    def wrong(self, text, line, word):
        self.refused(BadText, {"line": line, "word": word}, read_calendar, text)

    def test_read(self):
        calendar = read_calendar(text="calendar 2 -3 3\nguest ann 0+2\nguest bo -3+6\nguest boa 2+1")
        expected = Calendar(2, -3, 3)
        expected["ann"], expected["bo"], expected["boa"] = Stay(0, 2), Stay(-3, 3), Stay(2, 3)
        self.same([calendar == expected, calendar.names], [True, ("ann", "bo", "boa")])
        self.same(read_calendar("calendar 12 0 40") == Calendar(12, 0, 40), True)
        self.same(read_calendar(f"calendar 1 {-LAST} {1 - LAST}") == Calendar(1, -LAST, 1 - LAST), True)
        self.same(read_calendar(f"calendar 1 {LAST - 1} {LAST}") == Calendar(1, LAST - 1, LAST), True)

    def test_first_line(self):
        for text, word in [
            ("", 0), ("calendar", 1), ("Calendar 1 0 1", 0), (" calendar 1 0 1", 0), ("calendar 0 0 1", 1),
            ("calendar 13 0 1", 1), ("calendar 01 0 1", 1), ("calendar x 0 1", 1), ("calendar -1 0 1", 1),
            ("calendar 1", 2), ("calendar 1 0", 3), ("calendar 1 0 0", 3), ("calendar 1 0 -1", 3),
            ("calendar 1 0 41", 3), ("calendar 1 0 1 ", 4), ("calendar 1 0 1 2", 4), ("calendar 1  0 1", 2),
            ("calendar 1 -0 1", 2), ("calendar 1 00 1", 2), ("calendar 1 x 1", 2), ("calendar 1 0 +1", 3),
            (f"calendar 1 {LAST + 1} 1", 2), (f"calendar 1 {LAST} {LAST + 1}", 3), ("calendar 1 0 1.0", 3),
            (f"calendar 1 {LAST - 1} {LAST + 1}", 3), ("calendar 1 " + "1" * 5000 + " 2", 2), ("guest ann 0+1", 0),
            ("calendar 1 0 x y", 3), ("calendar 0 0 x y", 1), ("day 3", 0), ("calendar 12 5 46", 3),
        ]:
            self.wrong(text, 0, word)
            self.wrong(text + "\nguest", 0, word)
            self.wrong(text + "\nguest ann 99+1", 0, word)

    def test_lines_of_guests(self):
        for line, word in [
            ("", 0), (" ", 0), ("guest", 1), ("guest ", 1), ("guests ann 0+1", 0), ("calendar 1 0 4", 0),
            ("guest Ann 0+1", 1), ("guest abcdefghi 0+1", 1), ("guest 1 0+1", 1), ("guest ann", 2), ("guest ann ", 2),
            ("guest ann 0+01", 2), ("guest ann 0+0", 2), ("guest ann 0+401", 2), ("guest ann x", 2),
            ("guest ann 0 1", 2), ("guest ann 0+1 ", 3), ("guest ann 0+1 x", 3), ("guest  ann 0+1", 1),
            ("guest ann  0+1", 2), ("guest ab 0+1", 1), ("guest aa 0+1", 1), ("guest a 0+1", 1), ("guest 0+1", 1),
            (f"guest ann {LAST}+1", 2), ("guest ann -0+1", 2), ("ann 0+1", 0), ("guest ann 99+x", 2),
        ]:
            head = "calendar 1 0 4\nguest ab 0+2\n"
            self.wrong(head + line, 2, word)
            self.wrong(head + line + "\nguest x", 2, word)
            self.wrong(head.replace("0+2", "99+2") + line, 2, word)
        self.wrong("calendar 1 0 4\n", 1, 0)
        self.wrong("calendar 1 0 4\nguest bo 0+2\n", 2, 0)
        self.wrong("calendar 1 0 4\n\nguest bo 0+2", 1, 0)
        self.wrong("calendar 1 0 4\nguest bo 0+2\nguest bob 2+1\nguest bo 3+1", 3, 1)
        self.wrong("calendar 1 0 4\nguest a 0+2\nguest cy 2+1\nguest bo 3+1", 3, 1)

    def test_refused_guests(self):
        head = "calendar 1 0 4\nguest bo 1+2\n"
        self.refused(Full, {"night": 2}, read_calendar, head + "guest cy 2+2")
        self.refused(Outside, {"stay": Stay(3, 5)}, read_calendar, head + "guest cy 3+2")
        self.refused(Full, {"night": 1}, read_calendar, head + "guest cy 0+4\nguest dee 9+1")
        self.refused(Outside, {"stay": Stay(9, 10)}, read_calendar, head + "guest cy 9+1\nguest dee 1+1")
        self.refused(BadText, {"line": 3, "word": 2}, read_calendar, head + "guest cy 9+1\nguest dee x")

    def test_too_many_guests(self):
        names = sorted({a + b for a in "abcdefghijk" for b in "abcdefghijk"})[:101]
        lines = [f"guest {name} {at % 20}+1" for at, name in enumerate(names)]
        self.same(len(read_calendar("\n".join(["calendar 12 0 20"] + lines[:100]))), 100)
        many = {"what": "guests", "most": 100}
        self.refused(TooMany, many, read_calendar, "\n".join(["calendar 12 0 20"] + lines))
        last = lines[:100] + [f"guest {names[100]} 20+1"]
        self.refused(Outside, {"stay": Stay(20, 21)}, read_calendar, "\n".join(["calendar 12 0 20"] + last))
        self.refused(BadText, {"line": 102, "word": 0}, read_calendar, "\n".join(["calendar 12 0 20"] + lines + [""]))


if __name__ == "__main__":
    unittest.main()
