"""Points [2] and [13], and the heading nodeadnight/doors.py."""

import itertools
import unittest

from nodeadnight.books import Book
from nodeadnight.days import Days
from nodeadnight.doors import Ahead, All, Behind, Door, Lets, No, Some, Weakest
from nodeadnight.errors import BadDoor, BadStay, BadStretch, Outside, TooMany
from nodeadnight.lengths import Lengths
from nodeadnight.rules import Comes, Goes, Holds, Lasts, Rule
from nodeadnight.stays import Stay
from nodeadnight.stretches import Stretch, is_live
from rows import filled_from, some_book
from values import LAST, Checks, none_of, shuffled

KINDS = [Ahead, Behind, Lets, Weakest, All, Some, No]

METHODS = ["size", "__call__", "__and__", "__or__", "__sub__", "__invert__", "__eq__", "__str__"]

THREES = Book(Lasts(Lengths.of(3, 4)))

NUMBERS = [Lengths.none(), Lengths.every(), Lengths.of(0, 2), Lengths.since(3), Lengths.steps(1, 3)]
RULES = [Comes(Days.on(7, 5)), Goes(~Days.on(2, 0)) | Lasts(Lengths.of(2)), ~Holds(Days.on(3, 1))]

# Stretches with all the stays in them, as far as stretches and stays are short.
SALES = [(Stretch(day, nights), Stay(first, after)) for day, nights in itertools.product([-3, 0, 5], [None, 1, 4, 8])
         for first in range(day, day + 9) for after in range(first + 1, day + 10)
         if nights is None or after <= day + nights]

SHORT = Ahead(Lengths.of(0))


def ahead_of(stretch, stay):
    return stay.first - stretch.day


def behind_of(stretch, stay):
    return None if stretch.nights is None else stretch.day + stretch.nights - stay.after


def leaf(source):
    """A door, with a function that tells by itself whether it sells."""
    word = source.choice(["ahead", "behind", "lets", "weakest"])
    lengths, rule, book = source.choice(NUMBERS), source.choice(RULES), source.choice([THREES, Book.every()])
    if word == "ahead":
        return Ahead(lengths), lambda stretch, stay: ahead_of(stretch, stay) in lengths
    if word == "behind":
        endless = source.random() < 0.5
        return Behind(lengths, endless), lambda stretch, stay: (
            endless if stretch.nights is None else behind_of(stretch, stay) in lengths)
    if word == "lets":
        return Lets(rule), lambda stretch, stay: rule(stay)
    return Weakest(book), lambda stretch, stay: stay in book and all(
        is_live(book, part) for part in stretch - stay)


def nested(source, deep=3):
    word = source.choice(["all", "some", "no", "leaf"]) if deep > 0 else "leaf"
    if word == "leaf":
        return leaf(source)
    if word == "no":
        door, sells = nested(source, deep - 1)
        return No(door), lambda stretch, stay: not sells(stretch, stay)
    pairs = [nested(source, deep - 1) for _ in range(source.randrange(4))]
    kind, test = (All, all) if word == "all" else (Some, any)
    return kind(*[door for door, _ in pairs]), lambda stretch, stay: test(sells(stretch, stay) for _, sells in pairs)


def chain(size):
    """A door with so many doors in it."""
    door = All()
    for _ in range(size - 1):
        door = No(door)
    return door


class SellsTest(Checks, unittest.TestCase):
    def test_ahead_and_behind(self):
        for lengths in NUMBERS:
            for stretch, stay in SALES:
                self.same(Ahead(lengths)(stretch, stay), ahead_of(stretch, stay) in lengths)
                for endless in [True, False]:
                    behind = behind_of(stretch, stay)
                    sold = endless if behind is None else behind in lengths
                    self.same(Behind(lengths, endless)(stay=stay, stretch=stretch), sold)
                self.same(Behind(lengths)(stretch, stay), Behind(lengths, True)(stretch, stay))

    def test_lets(self):
        for rule in RULES:
            for stretch, stay in SALES:
                self.same(Lets(rule)(stretch, stay), rule(stay))

    def test_weakest(self):
        for book in shuffled(101, 12, lambda source: some_book(source, 30)) + [THREES, Book.every(), Book.none()]:
            filled = {day: filled_from(book, day, 20) for day in range(-3, 16)}
            for stretch, stay in SALES:
                sold = stay in book and filled[stretch.day][stay.first - stretch.day]
                if sold and stretch.nights is None:
                    sold = is_live(book, Stretch(stay.after, None))
                elif sold:
                    sold = filled[stay.after][stretch.day + stretch.nights - stay.after]
                self.same(Weakest(book)(stretch, stay), sold)

    def test_weakest_looks_at_both_sides(self):
        door = Weakest(THREES)
        self.same([door(Stretch(0, 10), Stay(3, 7)), door(Stretch(0, 10), Stay(4, 7)), door(Stretch(0, 10), Stay(5, 8)),
                   door(Stretch(0, 10), Stay(3, 6))], [True, True, False, True])
        self.same([door(Stretch(0, 9), Stay(3, 6)), door(Stretch(0, 9), Stay(2, 5)), door(Stretch(0, 9), Stay(0, 4)),
                   door(Stretch(0, 9), Stay(0, 9)), door(Stretch(0, 9), Stay(5, 9))],
                  [True, False, False, False, False])
        dead = Book.by_days(Lengths.of(1), Lengths.none())
        stay = Stay(0, 1)
        self.same([Weakest(dead)(Stretch(0, 1), stay), Weakest(dead)(Stretch(0, None), stay)], [True, False])

    def test_weakest_in_a_dead_stretch(self):
        # Whether the stretch itself is live plays no part: both that are left are dead, or none is.
        self.same(Weakest(THREES)(Stretch(0, 5), Stay(0, 4)), False)
        self.same(Weakest(Book.none())(Stretch(0, 5), Stay(0, 5)), False)

    def test_not_let_stays_too(self):
        self.same([All()(Stretch(0, 8), Stay(0, 1)), SHORT(Stretch(0, 8), Stay(0, 400 - 393))], [True, True])

    def test_long_stretches(self):
        far = Stretch(7, 400)
        late = Stay(405, 407)
        self.same([Ahead(Lengths.of(398))(far, late), Behind(Lengths.of(0))(far, late)], [True, True])
        self.same([Weakest(THREES)(far, Stay(400, 403)), Weakest(THREES)(far, Stay(399, 402))], [True, False])
        self.same(Weakest(THREES)(Stretch(7, None), Stay(407, 410)), True)

    def test_nested(self):
        for door, sells in shuffled(102, 150, nested):
            for stretch, stay in SALES[::5]:
                self.same(door(stretch, stay), sells(stretch, stay))

    def test_none_and_one(self):
        for stretch, stay in SALES[::9]:
            self.same([All()(stretch, stay), Some()(stretch, stay)], [True, False])
            self.same(All(SHORT)(stretch, stay), SHORT(stretch, stay))
            self.same(Some(SHORT)(stretch, stay), SHORT(stretch, stay))


class CallErrorsTest(Checks, unittest.TestCase):
    DOORS = [SHORT, Behind(Lengths.none()), Lets(RULES[0]), Weakest(THREES), All(), Some(SHORT), No(SHORT)]

    def test_errors_in_their_order(self):
        for door in self.DOORS:
            for value in none_of(Stretch):
                self.refused(BadStretch, {"part": "stretch"}, door, value, value)
                self.refused(BadStretch, {"part": "stretch"}, door, value, Stay(0, 1))
            for value in none_of(Stay):
                self.refused(BadStay, {"part": "stay"}, door, Stretch(0, 1), value)

    def test_outside(self):
        for door in self.DOORS:
            for stretch, stay in [
                (Stretch(0, 8), Stay(7, 9)), (Stretch(0, 8), Stay(-1, 1)), (Stretch(0, 0), Stay(0, 1)),
                (Stretch(0, 400), Stay(400, 401)), (Stretch(0, None), Stay(401, 402)), (Stretch(5, None), Stay(4, 6)),
                (Stretch(LAST - 3, 1), Stay(LAST - 2, LAST)),
            ]:
                self.refused(Outside, {"stay": stay}, door, stretch, stay)
            door(Stretch(0, None), Stay(400, 800))
            door(Stretch(0, 400), Stay(0, 400))
            door(Stretch(LAST - 3, None), Stay(LAST - 2, LAST))


class ClassesTest(Checks, unittest.TestCase):
    def test_bases(self):
        for kind in KINDS:
            self.same(issubclass(kind, Door), True)
            self.assertFalse(any(issubclass(kind, other) for other in KINDS if other is not kind))
            self.defines(kind, ["__init__", *METHODS])
        self.defines(Door, METHODS)

    def test_attributes(self):
        lengths, door, other = NUMBERS[3], SHORT, Lets(RULES[0])
        self.assertIs(Ahead(lengths=lengths).lengths, lengths)
        behind = Behind(endless=False, lengths=lengths)
        self.assertIs(behind.lengths, lengths)
        self.same([behind.endless, Behind(lengths).endless, Behind(lengths, True).endless], [False, True, True])
        self.assertIs(Lets(rule=RULES[0]).rule, RULES[0])
        self.assertIs(Weakest(book=THREES).book, THREES)
        self.assertIs(No(door=door).door, door)
        for kind in [All, Some]:
            self.same([kind().doors, len(kind(door, other).doors)], [(), 2])
            self.assertIs(type(kind(door).doors), tuple)
            self.assertTrue(all(one is two for one, two in zip(kind(door, other, door).doors, (door, other, door))))

    def test_size(self):
        self.same([Behind(NUMBERS[0]).size, Lets(RULES[1]).size, Some().size], [1, 1, 1])
        self.same([SHORT.size, Weakest(THREES).size, All().size, Some(SHORT, All(SHORT)).size, No(SHORT).size,
                   chain(30).size, All(*[SHORT] * 29).size], [1, 1, 1, 4, 2, 30, 30])
        with self.assertRaises(AttributeError):
            SHORT.size = 3

    def test_most(self):
        self.same([Door.MOST, Ahead.MOST, All().MOST], [30, 30, 30])


class WrongPartsTest(Checks, unittest.TestCase):
    def test_parts(self):
        for value in none_of(Lengths):
            self.refused(BadDoor, {"part": "lengths"}, Ahead, value)
            self.refused(BadDoor, {"part": "lengths"}, Behind, value)
            self.refused(BadDoor, {"part": "lengths"}, Behind, value, value if value is not True else 1)
        for value in none_of(bool):
            self.refused(BadDoor, {"part": "endless"}, Behind, NUMBERS[0], value)
        for value in none_of(Rule):
            self.refused(BadDoor, {"part": "rule"}, Lets, value)
        for value in none_of(Book):
            self.refused(BadDoor, {"part": "book"}, Weakest, value)
        for value in none_of(Door):
            self.refused(BadDoor, {"part": "door"}, No, value)
            for kind in [All, Some]:
                self.refused(BadDoor, {"part": "doors"}, kind, value)
                self.refused(BadDoor, {"part": "doors"}, kind, SHORT, value)
                self.refused(BadDoor, {"part": "doors"}, kind, *[SHORT] * 40, value)

    def test_too_many(self):
        many = {"what": "doors", "most": 30}
        self.same([No(chain(29)).size, All(chain(14), chain(15)).size, Some(chain(29)).size], [30, 30, 30])
        self.refused(TooMany, many, No, chain(30))
        for kind in [All, Some]:
            self.refused(TooMany, many, kind, *[SHORT] * 30)
            self.refused(TooMany, many, kind, chain(15), chain(15))
            self.refused(TooMany, many, kind, chain(30))
        full = All(*[SHORT] * 29)
        self.refused(TooMany, many, lambda: full & SHORT)
        self.refused(TooMany, many, lambda: full | SHORT)
        self.refused(TooMany, many, lambda: ~full)
        self.refused(TooMany, many, lambda: full - SHORT)
        self.same((~chain(30)).size, 29)
        self.same((SHORT - All(*[SHORT] * 26)).size, 30)
        self.refused(TooMany, many, lambda: SHORT - All(*[SHORT] * 27))

    def test_books_of_any_size(self):
        door = Weakest(Book(Lasts(Lengths.of(200, 397))))
        self.same([door(Stretch(0, 400), Stay(0, 200)), door(Stretch(0, 400), Stay(3, 400))], [True, False])


class SignsTest(Checks, unittest.TestCase):
    def test_classes_and_parts(self):
        other = Lets(RULES[0])
        for one in [SHORT, Behind(NUMBERS[2]), Lets(RULES[1]), Weakest(THREES), All(), Some(SHORT), No(SHORT)]:
            self.assertEqual(one & other, All(one, other))
            self.assertEqual(one | other, Some(one, other))
            self.assertEqual(one - other, All(one, No(other)))
            self.assertEqual(one - No(other), All(one, other))
            self.assertEqual(~one, one.door if type(one) is No else No(one))
            self.assertIs(~~one if type(one) is not No else one, one)

    def test_in_place(self):
        first = door = SHORT
        door &= All()
        door |= Some()
        door -= SHORT
        self.assertEqual(door, All(Some(All(SHORT, All()), Some()), No(SHORT)))
        self.same([str(first), first is SHORT], ["ahead 0", True])

    def test_equal(self):
        doors = [
            Ahead(NUMBERS[0]), Ahead(NUMBERS[2]), Behind(NUMBERS[0]), Behind(NUMBERS[0], False), Behind(NUMBERS[2]),
            Lets(RULES[0]), Lets(RULES[1]), Weakest(THREES), Weakest(Book.none()), All(), Some(), All(SHORT),
            Some(SHORT), All(SHORT, SHORT), All(SHORT, All()), All(All(), SHORT), No(SHORT), No(No(SHORT)), No(All()),
        ]
        for (i, one), (k, other) in itertools.product(enumerate(doors), enumerate(doors)):
            self.same([one == other, one != other], [i == k, i != k])
        for door in doors:
            self.alone(door, [value for value in none_of(Door)] + [str(door)])
        self.same(Weakest(Book(Lasts(Lengths.of(2)))) == Weakest(Book(Lasts(Lengths.of(0, 2)))), True)


class TextTest(Checks, unittest.TestCase):
    def test_str(self):
        rows = [
            (Ahead(Lengths.none()), "ahead none"), (Behind(Lengths.of(0, 3)), "behind endless 0 3"),
            (Behind(Lengths.of(0, 3), False), "behind 0 3"), (Lets(RULES[1]), "lets or goes by 2 at 1 lasts 2"),
            (Weakest(THREES), "weakest day 3 4"), (Weakest(Book(Comes(Days.on(2, 1)))),
                                                   "weakest day none day from 1 by 1 at 0"),
            (All(), "all 0"), (Some(), "some 0"), (All(SHORT), "all 1 ahead 0"),
            (Some(All(), No(SHORT), All(SHORT, Some())), "some 3 all 0 no ahead 0 all 2 ahead 0 some 0"),
            (No(No(All())), "no no all 0"), (chain(30), "no " * 29 + "all 0"),
            (Ahead(Lengths(9, [4, 8, 4], 4, [0])), "ahead from 1 by 4 at 0"),
        ]
        for door, text in rows:
            self.same(str(door), text)


if __name__ == "__main__":
    unittest.main()
