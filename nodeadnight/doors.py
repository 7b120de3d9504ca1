"""Doors: they tell of a free stretch of one room and a stay in it whether it is sold there."""

from nodeadnight.books import Book
from nodeadnight.errors import BadDoor, BadStretch, Outside, TooMany
from nodeadnight.lengths import Lengths
from nodeadnight.rules import Rule
from nodeadnight.stays import check_stay
from nodeadnight.stretches import Stretch, is_live


class Door:
    """The base of the doors; it is not made itself. Each door has all methods in its own class."""

    MOST = 30

    @property
    def size(self):
        """How many doors are in it, itself counted."""
        return 1

    def __call__(self, stretch, stay):
        check_sale(stretch, stay)
        return self.is_sold(stretch, stay)

    def is_sold(self, stretch, stay):
        """Whether the door sells a stay that is in a stretch."""
        return False

    def __and__(self, other):
        return All(self, other)

    def __or__(self, other):
        return Some(self, other)

    def __sub__(self, other):
        return self & ~other

    def __invert__(self):
        return No(self)

    def __eq__(self, other):
        return isinstance(other, Door) and str(self) == str(other)

    def __str__(self):
        return "door"


class Ahead(Door):
    """Sells a stay if the number of free nights ahead of it is in lengths."""

    def __init__(self, lengths):
        check_lengths(lengths)
        self.lengths = lengths

    @property
    def size(self):
        """How many doors are in it, itself counted."""
        return 1

    def __call__(self, stretch, stay):
        check_sale(stretch, stay)
        return self.is_sold(stretch, stay)

    def is_sold(self, stretch, stay):
        """Whether the door sells a stay that is in a stretch."""
        return stay.first - stretch.day in self.lengths

    def __and__(self, other):
        return All(self, other)

    def __or__(self, other):
        return Some(self, other)

    def __sub__(self, other):
        return self & ~other

    def __invert__(self):
        return No(self)

    def __eq__(self, other):
        return isinstance(other, Ahead) and self.lengths == other.lengths

    def __str__(self):
        return f"ahead {self.lengths}"


class Behind(Door):
    """Sells a stay if the number of free nights behind it is in lengths, endless ones if endless is True."""

    def __init__(self, lengths, endless=True):
        check_lengths(lengths)
        if not isinstance(endless, bool):
            raise BadDoor("endless")
        self.lengths = lengths
        self.endless = endless

    @property
    def size(self):
        """How many doors are in it, itself counted."""
        return 1

    def __call__(self, stretch, stay):
        check_sale(stretch, stay)
        return self.is_sold(stretch, stay)

    def is_sold(self, stretch, stay):
        """Whether the door sells a stay that is in a stretch."""
        if stretch.nights is None:
            return self.endless
        return stretch.day + stretch.nights - stay.after in self.lengths

    def __and__(self, other):
        return All(self, other)

    def __or__(self, other):
        return Some(self, other)

    def __sub__(self, other):
        return self & ~other

    def __invert__(self):
        return No(self)

    def __eq__(self, other):
        return isinstance(other, Behind) and self.lengths == other.lengths and self.endless == other.endless

    def __str__(self):
        if self.endless:
            return f"behind endless {self.lengths}"
        return f"behind {self.lengths}"


class Lets(Door):
    """Sells a stay if the rule lets it."""

    def __init__(self, rule):
        if not isinstance(rule, Rule):
            raise BadDoor("rule")
        self.rule = rule

    @property
    def size(self):
        """How many doors are in it, itself counted."""
        return 1

    def __call__(self, stretch, stay):
        check_sale(stretch, stay)
        return self.is_sold(stretch, stay)

    def is_sold(self, stretch, stay):
        """Whether the door sells a stay that is in a stretch."""
        return self.rule.allows(stay.first, len(stay))

    def __and__(self, other):
        return All(self, other)

    def __or__(self, other):
        return Some(self, other)

    def __sub__(self, other):
        return self & ~other

    def __invert__(self):
        return No(self)

    def __eq__(self, other):
        return isinstance(other, Lets) and self.rule == other.rule

    def __str__(self):
        return f"lets {self.rule}"


class Weakest(Door):
    """Sells just the let stays of a book that leave two live stretches."""

    def __init__(self, book):
        if not isinstance(book, Book):
            raise BadDoor("book")
        self.book = book

    @property
    def size(self):
        """How many doors are in it, itself counted."""
        return 1

    def __call__(self, stretch, stay):
        check_sale(stretch, stay)
        return self.is_sold(stretch, stay)

    def is_sold(self, stretch, stay):
        """Whether the door sells a stay that is in a stretch."""
        return stay in self.book and all([is_live(self.book, left) for left in stretch - stay])

    def __and__(self, other):
        return All(self, other)

    def __or__(self, other):
        return Some(self, other)

    def __sub__(self, other):
        return self & ~other

    def __invert__(self):
        return No(self)

    def __eq__(self, other):
        return isinstance(other, Weakest) and self.book == other.book

    def __str__(self):
        return f"weakest {self.book}"


class All(Door):
    """Sells a stay if all of its doors sell it."""

    def __init__(self, *doors):
        check_doors(doors)
        self.doors = doors

    @property
    def size(self):
        """How many doors are in it, itself counted."""
        return size_with(self.doors)

    def __call__(self, stretch, stay):
        check_sale(stretch, stay)
        return self.is_sold(stretch, stay)

    def is_sold(self, stretch, stay):
        """Whether the door sells a stay that is in a stretch."""
        return all([door.is_sold(stretch, stay) for door in self.doors])

    def __and__(self, other):
        return All(self, other)

    def __or__(self, other):
        return Some(self, other)

    def __sub__(self, other):
        return self & ~other

    def __invert__(self):
        return No(self)

    def __eq__(self, other):
        return isinstance(other, All) and self.doors == other.doors

    def __str__(self):
        return f"all {text_of(self.doors)}"


class Some(Door):
    """Sells a stay if one of its doors sells it."""

    def __init__(self, *doors):
        check_doors(doors)
        self.doors = doors

    @property
    def size(self):
        """How many doors are in it, itself counted."""
        return size_with(self.doors)

    def __call__(self, stretch, stay):
        check_sale(stretch, stay)
        return self.is_sold(stretch, stay)

    def is_sold(self, stretch, stay):
        """Whether the door sells a stay that is in a stretch."""
        return any([door.is_sold(stretch, stay) for door in self.doors])

    def __and__(self, other):
        return All(self, other)

    def __or__(self, other):
        return Some(self, other)

    def __sub__(self, other):
        return self & ~other

    def __invert__(self):
        return No(self)

    def __eq__(self, other):
        return isinstance(other, Some) and self.doors == other.doors

    def __str__(self):
        return f"some {text_of(self.doors)}"


class No(Door):
    """Sells a stay if the door does not."""

    def __init__(self, door):
        if not isinstance(door, Door):
            raise BadDoor("door")
        check_many([door])
        self.door = door

    @property
    def size(self):
        """How many doors are in it, itself counted."""
        return size_with((self.door,))

    def __call__(self, stretch, stay):
        check_sale(stretch, stay)
        return self.is_sold(stretch, stay)

    def is_sold(self, stretch, stay):
        """Whether the door sells a stay that is in a stretch."""
        return not self.door.is_sold(stretch, stay)

    def __and__(self, other):
        return All(self, other)

    def __or__(self, other):
        return Some(self, other)

    def __sub__(self, other):
        return self & ~other

    def __invert__(self):
        return self.door

    def __eq__(self, other):
        return isinstance(other, No) and self.door == other.door

    def __str__(self):
        return f"no {self.door}"


def check_sale(stretch, stay):
    """Refuses any values that are no stretch and no stay, and a stay that is not in the stretch."""
    if not isinstance(stretch, Stretch):
        raise BadStretch("stretch")
    check_stay(stay)
    if not stretch.has_stay(stay):
        raise Outside(stay)


def check_lengths(value):
    """Refuses any value that is no Lengths."""
    if not isinstance(value, Lengths):
        raise BadDoor("lengths")


def check_doors(doors):
    """Refuses any values that are not all doors, and too many of them."""
    if not all([isinstance(door, Door) for door in doors]):
        raise BadDoor("doors")
    check_many(doors)


def check_many(doors):
    """Refuses more doors in one than the most."""
    if size_with(doors) > Door.MOST:
        raise TooMany("doors", Door.MOST)


def size_with(doors):
    """How many doors are in a door with these ones, itself counted."""
    return 1 + sum([door.size for door in doors])


def text_of(doors):
    """The number of doors, and behind it their texts."""
    texts = [str(door) for door in doors]
    return " ".join([str(len(doors)), *texts])
