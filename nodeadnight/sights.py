"""Sights: what doors sell in a stretch, told of all stays at once that begin on one day of it.

Marks are integers with a bit for each number of nights, the one of no nights lowest.
"""

from nodeadnight.books import common_period, leaves_of
from nodeadnight.doors import Ahead, All, Behind, Lets, No, Weakest
from nodeadnight.rules import DayRule
from nodeadnight.stretches import alive


class Ground:
    """What a book lets and fills, of numbers of nights up to a greatest one; all by days of its round."""

    def __init__(self, book, greatest):
        self.turn = book.round
        self.greatest = greatest
        self.letting = [marks_in(book.lengths_on(day), greatest) for day in range(self.turn)]
        self.filling = [filling_marks(self.letting, day, greatest) for day in range(self.turn)]
        self.closing = [closing_marks(self.filling, day, greatest) for day in range(self.turn)]
        living = alive(book)
        self.living = [marks_of([day + n in living for n in range(greatest + 1)]) for day in range(self.turn)]

    def let_on(self, day):
        """Marks the let stays from a day."""
        return self.letting[day % self.turn]

    def is_live_on(self, day, nights):
        """Whether the stretch from a day is live; it is endless if nights is None."""
        if nights is None:
            return self.living[day % self.turn] & 1 == 1
        return self.filling[day % self.turn] >> nights & 1 == 1

    def live_behind(self, day, nights):
        """Marks the stays from the day on which a stretch begins that leave a live stretch behind them."""
        if nights is None:
            return self.living[day % self.turn]
        return self.closing[(day + nights) % self.turn] >> (self.greatest - nights)


class AheadSight:
    """Of a door that looks at the nights ahead of a stay."""

    def __init__(self, lengths, greatest):
        self.fitting = marks_in(lengths, greatest)
        self.whole = whole_marks(greatest)

    def sold_on(self, day, nights, gap):
        """Marks the stays that are sold from gap nights behind the day on which a stretch begins."""
        return self.whole if self.fitting >> gap & 1 == 1 else 0


class BehindSight:
    """Of a door that looks at the nights behind a stay."""

    def __init__(self, lengths, endless, greatest):
        self.fitting = turned(marks_in(lengths, greatest), greatest)
        self.endless = whole_marks(greatest) if endless else 0
        self.greatest = greatest

    def sold_on(self, day, nights, gap):
        """Marks the stays that are sold from gap nights behind the day on which a stretch begins."""
        if nights is None:
            return self.endless
        return self.fitting >> (self.greatest - nights + gap)


class LetsSight:
    """Of a door that asks a rule."""

    def __init__(self, rule, greatest):
        self.rule = rule
        self.greatest = greatest
        self.turn = common_period([leaf.days.period for leaf in leaves_of(rule) if isinstance(leaf, DayRule)])
        self.kept = {}

    def sold_on(self, day, nights, gap):
        """Marks the stays that are sold from gap nights behind the day on which a stretch begins."""
        first = (day + gap) % self.turn
        # Worked out when it is asked for: a rule may come round so late that most of its days are never asked for.
        if first not in self.kept:
            told = [n > 0 and self.rule.allows(first, n) for n in range(self.greatest + 1)]
            self.kept[first] = marks_of(told)
        return self.kept[first]


class WeakestSight:
    """Of the weakest door for a book."""

    def __init__(self, book, greatest):
        self.ground = Ground(book, greatest)

    def sold_on(self, day, nights, gap):
        """Marks the stays that are sold from gap nights behind the day on which a stretch begins."""
        ground = self.ground
        if not ground.is_live_on(day, gap):
            return 0
        return ground.let_on(day + gap) & ground.live_behind(day + gap, None if nights is None else nights - gap)


class AllSight:
    """Of a door with several doors, all of which sell."""

    def __init__(self, sights, greatest):
        self.sights = sights
        self.whole = whole_marks(greatest)

    def sold_on(self, day, nights, gap):
        """Marks the stays that are sold from gap nights behind the day on which a stretch begins."""
        marks = self.whole
        for sight in self.sights:
            marks = marks & sight.sold_on(day, nights, gap)
        return marks


class NoSight:
    """Of a door that sells what another one does not."""

    def __init__(self, sight, greatest):
        self.sight = sight
        self.whole = whole_marks(greatest)

    def sold_on(self, day, nights, gap):
        """Marks the stays that are sold from gap nights behind the day on which a stretch begins."""
        return self.whole & ~self.sight.sold_on(day, nights, gap)


class Sight:
    """Of a door and a book: a stay is sold if the door does so and the book lets it."""

    def __init__(self, door, ground):
        self.ground = ground
        self.part = sight_of(door, ground.greatest)

    def sold_on(self, day, nights, gap):
        """Marks the stays that are sold from gap nights behind the day on which a stretch begins.

        Of an endless stretch, if nights is None, those of as many nights as the ground knows.
        """
        marks = self.part.sold_on(day, nights, gap) & self.ground.let_on(day + gap)
        return marks if nights is None else marks & whole_marks(nights - gap)


def sight_of(door, greatest):
    """The sight of a door by itself."""
    if isinstance(door, Ahead):
        return AheadSight(door.lengths, greatest)
    if isinstance(door, Behind):
        return BehindSight(door.lengths, door.endless, greatest)
    if isinstance(door, Lets):
        return LetsSight(door.rule, greatest)
    if isinstance(door, Weakest):
        return WeakestSight(door.book, greatest)
    if isinstance(door, No):
        return NoSight(sight_of(door.door, greatest), greatest)
    if isinstance(door, All):
        return AllSight([sight_of(each, greatest) for each in door.doors], greatest)
    # Some of them sell exactly if not all of them refuse.
    refusing = [NoSight(sight_of(each, greatest), greatest) for each in door.doors]
    return NoSight(AllSight(refusing, greatest), greatest)


def whole_marks(greatest):
    """Marks all numbers up to a greatest one."""
    return (1 << (greatest + 1)) - 1


def marks_of(told):
    """Marks the numbers that are told to be True."""
    return sum([1 << n for n in range(len(told)) if told[n]])


def marks_in(lengths, greatest):
    """Marks the members of a Lengths."""
    return marks_of([n in lengths for n in range(greatest + 1)])


def members_of(marks):
    """The numbers that are marked, ascending."""
    return [n for n in range(marks.bit_length()) if marks >> n & 1 == 1]


def turned(marks, greatest):
    """Marks n if so many nights less than the greatest number are marked."""
    return sum([1 << (greatest - n) for n in members_of(marks)])


def filling_marks(letting, day, greatest):
    """Marks the nights from a day that rows of let stays fill."""
    marks = 1
    for n in range(greatest):
        if marks >> n & 1 == 1:
            marks = marks | letting[(day + n) % len(letting)] << n
    return marks & whole_marks(greatest)


def closing_marks(filling, day, greatest):
    """Marks n if a row of let stays fills so many nights less than the greatest number and ends on a day."""
    turn = len(filling)
    ending = [filling[(day - n) % turn] >> n & 1 == 1 for n in range(greatest + 1)]
    return turned(marks_of(ending), greatest)
