"""All errors of the package, those of every module."""


class StayError(ValueError):
    """The base of all errors of the package."""


class BadInput(StayError):
    """A value is not as the document tells."""


class Refused(StayError):
    """The values are well formed, but the deed or the size is refused."""


class NoAnswer(StayError):
    """There is nothing to answer with or to work on."""


class BadLengths(BadInput):
    """An argument of a Lengths is wrong; part is its name."""

    def __init__(self, part):
        self.part = part


class BadDays(BadInput):
    """An argument of a Days is wrong; part is its name."""

    def __init__(self, part):
        self.part = part


class BadStay(BadInput):
    """A stay, or an argument of one, is wrong; part is its name."""

    def __init__(self, part):
        self.part = part


class BadRule(BadInput):
    """An argument of a rule is wrong; part is its name."""

    def __init__(self, part):
        self.part = part


class BadBook(BadInput):
    """A book, or an argument of one, is wrong; part is its name."""

    def __init__(self, part):
        self.part = part


class BadStretch(BadInput):
    """A stretch, or an argument of one, is wrong; part is its name."""

    def __init__(self, part):
        self.part = part


class BadCalendar(BadInput):
    """A calendar, or an argument of one, is wrong; part is its name."""

    def __init__(self, part):
        self.part = part


class BadDoor(BadInput):
    """A door, or an argument of one, is wrong; part is its name."""

    def __init__(self, part):
        self.part = part


class BadName(BadInput):
    """The value is no name of a guest."""

    def __init__(self, value):
        self.value = value


class BadCount(BadInput):
    """The value is no number of the kind or within the bounds that are asked for."""

    def __init__(self, value):
        self.value = value


class BadWish(BadInput):
    """The wish with the index at is wrong; all of them together, if at is None."""

    def __init__(self, at):
        self.at = at


class BadRow(BadInput):
    """The sale with the index at is wrong; all of them together, if at is None."""

    def __init__(self, at):
        self.at = at


class BadText(BadInput):
    """A text has a word that cannot stand; both fields count from 0."""

    def __init__(self, line, word):
        self.line = line
        self.word = word


class BadLine(BadInput):
    """A line for a desk has a word that cannot stand; word counts from 0."""

    def __init__(self, word):
        self.word = word


class Taken(Refused):
    """The guest of this name has a stay."""

    def __init__(self, name):
        self.name = name


class NoGuest(Refused):
    """No guest has this name."""

    def __init__(self, name):
        self.name = name


class NotLet(Refused):
    """The book does not let the stay."""

    def __init__(self, stay):
        self.stay = stay


class Outside(Refused):
    """The stay is not within the days or the stretch."""

    def __init__(self, stay):
        self.stay = stay


class Full(Refused):
    """No room is free in the night."""

    def __init__(self, night):
        self.night = night


class Loose(Refused):
    """The stay of the guest of this name is no row of stays that a book lets."""

    def __init__(self, name):
        self.name = name


class TooMany(Refused):
    """Of what the word tells, more than the most would be there."""

    def __init__(self, what, most):
        self.what = what
        self.most = most


class Dead(NoAnswer):
    """A calendar has no fill; bar is one of its bars, an ascending tuple of days."""

    def __init__(self, bar):
        self.bar = bar


class NoDeed(NoAnswer):
    """There is no deed to take back."""


class NoHouse(NoAnswer):
    """The desk has no house."""
