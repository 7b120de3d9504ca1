"""Rules: they tell of each stay whether it is let."""

from nodeadnight.days import Days
from nodeadnight.errors import BadRule, TooMany
from nodeadnight.lengths import Lengths
from nodeadnight.stays import check_stay


class Rule:
    """The base of all rules; it is not made itself. Each rule has all methods in its own class."""

    MOST = 30

    @property
    def size(self):
        """How many rules are in it, itself counted."""
        return 1

    def __call__(self, stay):
        check_stay(stay)
        return self.allows(stay.first, len(stay))

    def allows(self, first, nights):
        """Whether the rule lets a stay from a day, of any number of nights."""
        return False

    def __and__(self, other):
        return Both(self, other)

    def __or__(self, other):
        return Either(self, other)

    def __sub__(self, other):
        return self & ~other

    def __invert__(self):
        return Not(self)

    def __eq__(self, other):
        return isinstance(other, Rule) and str(self) == str(other)

    def __str__(self):
        return "rule"


class DayRule(Rule):
    """The base of the rules that ask for days; it is not made itself."""


class NightRule(Rule):
    """The base of the rules that ask for the days of nights; it is not made itself."""


class LengthRule(Rule):
    """The base of the rules that ask for numbers of nights; it is not made itself."""


class Comes(DayRule):
    """Lets a stay if its first day is in days."""

    def __init__(self, days):
        check_days(days)
        self.days = days

    @property
    def size(self):
        """How many rules are in it, itself counted."""
        return 1

    def __call__(self, stay):
        check_stay(stay)
        return self.allows(stay.first, len(stay))

    def allows(self, first, nights):
        """Whether the rule lets a stay from a day, of any number of nights."""
        return first in self.days

    def __and__(self, other):
        return Both(self, other)

    def __or__(self, other):
        return Either(self, other)

    def __sub__(self, other):
        return self & ~other

    def __invert__(self):
        return Not(self)

    def __eq__(self, other):
        return isinstance(other, Comes) and self.days == other.days

    def __str__(self):
        return f"comes {self.days}"


class Goes(DayRule):
    """Lets a stay if its after is in days."""

    def __init__(self, days):
        check_days(days)
        self.days = days

    @property
    def size(self):
        """How many rules are in it, itself counted."""
        return 1

    def __call__(self, stay):
        check_stay(stay)
        return self.allows(stay.first, len(stay))

    def allows(self, first, nights):
        """Whether the rule lets a stay from a day, of any number of nights."""
        return first + nights in self.days

    def __and__(self, other):
        return Both(self, other)

    def __or__(self, other):
        return Either(self, other)

    def __sub__(self, other):
        return self & ~other

    def __invert__(self):
        return Not(self)

    def __eq__(self, other):
        return isinstance(other, Goes) and self.days == other.days

    def __str__(self):
        return f"goes {self.days}"


class Holds(DayRule, NightRule):
    """Lets a stay if some night of it is in days."""

    def __init__(self, days):
        check_days(days)
        self.days = days

    @property
    def size(self):
        """How many rules are in it, itself counted."""
        return 1

    def __call__(self, stay):
        check_stay(stay)
        return self.allows(stay.first, len(stay))

    def allows(self, first, nights):
        """Whether the rule lets a stay from a day, of any number of nights."""
        return any([night in self.days for night in nights_to_ask(self.days, first, nights)])

    def __and__(self, other):
        return Both(self, other)

    def __or__(self, other):
        return Either(self, other)

    def __sub__(self, other):
        return self & ~other

    def __invert__(self):
        return Not(self)

    def __eq__(self, other):
        return isinstance(other, Holds) and self.days == other.days

    def __str__(self):
        return f"holds {self.days}"


class Within(DayRule, NightRule):
    """Lets a stay if all its nights are in days."""

    def __init__(self, days):
        check_days(days)
        self.days = days

    @property
    def size(self):
        """How many rules are in it, itself counted."""
        return 1

    def __call__(self, stay):
        check_stay(stay)
        return self.allows(stay.first, len(stay))

    def allows(self, first, nights):
        """Whether the rule lets a stay from a day, of any number of nights."""
        return all([night in self.days for night in nights_to_ask(self.days, first, nights)])

    def __and__(self, other):
        return Both(self, other)

    def __or__(self, other):
        return Either(self, other)

    def __sub__(self, other):
        return self & ~other

    def __invert__(self):
        return Not(self)

    def __eq__(self, other):
        return isinstance(other, Within) and self.days == other.days

    def __str__(self):
        return f"within {self.days}"


class Lasts(LengthRule):
    """Lets a stay if its number of nights is in lengths."""

    def __init__(self, lengths):
        if not isinstance(lengths, Lengths):
            raise BadRule("lengths")
        self.lengths = lengths

    @property
    def size(self):
        """How many rules are in it, itself counted."""
        return 1

    def __call__(self, stay):
        check_stay(stay)
        return self.allows(stay.first, len(stay))

    def allows(self, first, nights):
        """Whether the rule lets a stay from a day, of any number of nights."""
        return nights in self.lengths

    def __and__(self, other):
        return Both(self, other)

    def __or__(self, other):
        return Either(self, other)

    def __sub__(self, other):
        return self & ~other

    def __invert__(self):
        return Not(self)

    def __eq__(self, other):
        return isinstance(other, Lasts) and self.lengths == other.lengths

    def __str__(self):
        return f"lasts {self.lengths}"


class Both(Rule):
    """Lets a stay if both rules let it."""

    def __init__(self, one, other):
        check_rule(one, "one")
        check_rule(other, "other")
        check_many(1 + one.size + other.size)
        self.one = one
        self.other = other

    @property
    def size(self):
        """How many rules are in it, itself counted."""
        return 1 + self.one.size + self.other.size

    def __call__(self, stay):
        check_stay(stay)
        return self.allows(stay.first, len(stay))

    def allows(self, first, nights):
        """Whether the rule lets a stay from a day, of any number of nights."""
        return self.one.allows(first, nights) and self.other.allows(first, nights)

    def __and__(self, other):
        return Both(self, other)

    def __or__(self, other):
        return Either(self, other)

    def __sub__(self, other):
        return self & ~other

    def __invert__(self):
        return Not(self)

    def __eq__(self, other):
        return isinstance(other, Both) and self.one == other.one and self.other == other.other

    def __str__(self):
        return f"and {self.one} {self.other}"


class Either(Rule):
    """Lets a stay if one of both rules lets it."""

    def __init__(self, one, other):
        check_rule(one, "one")
        check_rule(other, "other")
        check_many(1 + one.size + other.size)
        self.one = one
        self.other = other

    @property
    def size(self):
        """How many rules are in it, itself counted."""
        return 1 + self.one.size + self.other.size

    def __call__(self, stay):
        check_stay(stay)
        return self.allows(stay.first, len(stay))

    def allows(self, first, nights):
        """Whether the rule lets a stay from a day, of any number of nights."""
        return self.one.allows(first, nights) or self.other.allows(first, nights)

    def __and__(self, other):
        return Both(self, other)

    def __or__(self, other):
        return Either(self, other)

    def __sub__(self, other):
        return self & ~other

    def __invert__(self):
        return Not(self)

    def __eq__(self, other):
        return isinstance(other, Either) and self.one == other.one and self.other == other.other

    def __str__(self):
        return f"or {self.one} {self.other}"


class Not(Rule):
    """Lets a stay if the rule does not."""

    def __init__(self, rule):
        check_rule(rule, "rule")
        check_many(1 + rule.size)
        self.rule = rule

    @property
    def size(self):
        """How many rules are in it, itself counted."""
        return 1 + self.rule.size

    def __call__(self, stay):
        check_stay(stay)
        return self.allows(stay.first, len(stay))

    def allows(self, first, nights):
        """Whether the rule lets a stay from a day, of any number of nights."""
        return not self.rule.allows(first, nights)

    def __and__(self, other):
        return Both(self, other)

    def __or__(self, other):
        return Either(self, other)

    def __sub__(self, other):
        return self & ~other

    def __invert__(self):
        return self.rule

    def __eq__(self, other):
        return isinstance(other, Not) and self.rule == other.rule

    def __str__(self):
        return f"not {self.rule}"


def check_days(value):
    """Refuses any value that is no Days."""
    if not isinstance(value, Days):
        raise BadRule("days")


def check_rule(value, part):
    """Refuses any value that is no rule."""
    if not isinstance(value, Rule):
        raise BadRule(part)


def check_many(many):
    """Refuses more rules in one than the most."""
    if many > Rule.MOST:
        raise TooMany("rules", Rule.MOST)


def nights_to_ask(days, first, nights):
    """Those nights of a stay that tell of all: behind a period of the days they come round."""
    return list(range(first, first + min(int(nights), days.period)))
