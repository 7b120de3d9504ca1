"""Reads the texts of rules, doors, books and calendars."""

from nodeadnight.basics import LAST_DAY
from nodeadnight.calendars import Calendar
from nodeadnight.doors import Ahead, All, Behind, Door, Lets, No, Some, Weakest
from nodeadnight.errors import BadText
from nodeadnight.rules import Both, Comes, Either, Goes, Holds, Lasts, Not, Within
from nodeadnight.words import Words, take_book, take_days, take_lengths

RULE_WORDS = ("comes", "goes", "holds", "within", "lasts", "and", "or", "not")
DOOR_WORDS = ("ahead", "behind", "lets", "weakest", "all", "some", "no")


def read_rule(text):
    """The rule with a text."""
    words = words_of(text)
    parts = take_parts(words, take_rule_part)
    words.check_end()
    return built(parts, make_rule)


def read_door(text):
    """The door with a text."""
    words = words_of(text)
    parts = take_parts(words, take_door_part)
    words.check_end()
    return built(parts, make_door)


def read_book(text):
    """The book with just this text."""
    words = words_of(text)
    book = take_book(words)
    words.check_end()
    return book


def read_calendar(text):
    """The calendar with a text."""
    if not isinstance(text, str):
        raise BadText(0, 0)
    lines = text.split("\n")
    calendar = take_calendar(Words(lines[0], 0))
    told = []
    for at, line in enumerate(lines[1:], start=1):
        told.append(take_guest(Words(line, at), told[-1][0] if told else ""))
    for name, stay in told:
        calendar[name] = stay
    return calendar


def words_of(text):
    """The words of a text of one line."""
    if not isinstance(text, str):
        raise BadText(0, 0)
    return Words(text, 0)


def take_parts(words, take_part):
    """Takes a text whose parts have others in them, and returns the parts in the order of the text.

    A part is its word, the values that stand behind it, and the number of the parts in it.
    """
    parts = []
    # No calls within calls here: a text can be nested as deep as it is long.
    lacking = 1
    while lacking > 0:
        part = take_part(words)
        parts.append(part)
        lacking = lacking - 1 + part[2]
    return parts


def built(parts, make):
    """What parts tell of; inner ones are made first, from the left."""
    whole, waiting = [], []
    for word, values, many in parts:
        waiting.append((word, list(values), len(values) + many))
        while waiting and len(waiting[-1][1]) == waiting[-1][2]:
            done, told, _ = waiting.pop()
            around = waiting[-1][1] if waiting else whole
            around.append(make(done, told))
    return whole[0]


def take_rule_part(words):
    """Takes the words of a rule but for those of the rules in it."""
    word = words.take(RULE_WORDS)
    if word in ("and", "or"):
        return word, [], 2
    if word == "not":
        return word, [], 1
    if word == "lasts":
        return word, [take_lengths(words)], 0
    return word, [take_days(words)], 0


def make_rule(word, told):
    """The rule with a word, of the set or the rules that it is told."""
    if word == "comes":
        return Comes(told[0])
    if word == "goes":
        return Goes(told[0])
    if word == "holds":
        return Holds(told[0])
    if word == "within":
        return Within(told[0])
    if word == "lasts":
        return Lasts(told[0])
    if word == "and":
        return Both(told[0], told[1])
    if word == "or":
        return Either(told[0], told[1])
    return Not(told[0])


def take_door_part(words):
    """Takes the words of a door but for those of the doors in it."""
    word = words.take(DOOR_WORDS)
    if word == "ahead":
        return word, [take_lengths(words)], 0
    if word == "behind":
        endless = words.skip("endless")
        return word, [take_lengths(words), endless], 0
    if word == "lets":
        # Rules are made only when all words are known to stand: the errors of words come first.
        return word, [take_parts(words, take_rule_part)], 0
    if word == "weakest":
        return word, [take_book(words)], 0
    if word == "no":
        return word, [], 1
    return word, [], words.take_number(0, Door.MOST - 1)


def make_door(word, told):
    """The door with a word, of what it is told."""
    if word == "ahead":
        return Ahead(told[0])
    if word == "behind":
        return Behind(told[0], told[1])
    if word == "lets":
        return Lets(built(told[0], make_rule))
    if word == "weakest":
        return Weakest(told[0])
    if word == "all":
        return All(*told)
    if word == "some":
        return Some(*told)
    return No(told[0])


def take_calendar(words):
    """Takes the line of a calendar without its guests, and returns the calendar."""
    words.take(("calendar",))
    rooms = words.take_number(1, Calendar.ROOMS)
    first = words.take_number(-LAST_DAY, LAST_DAY)
    after = words.take_number(first + 1, min(int(first + Calendar.NIGHTS), LAST_DAY))
    words.check_end()
    return Calendar(rooms, first, after)


def take_guest(words, last):
    """Takes the line of a guest with a name above the last one, and returns the name and the stay."""
    words.take(("guest",))
    name, stay = words.take_name(last), words.take_stay()
    words.check_end()
    return name, stay
