"""A second reader of texts, written by the words of the document alone: it only tells which word cannot stand."""

from nodeadnight.books import Book
from nodeadnight.days import Days
from nodeadnight.errors import BadLengths, TooMany
from nodeadnight.lengths import Lengths

FIGURES = [str(n) for n in range(401)]
LAST_DAY = 10 ** 12 - 1

# The lines of a desk as the document's table has them.
LINES = [line.split() for line in [
    "open R D D BOOK", "sell N S", "change N S", "cancel N", "book BOOK", "rooms R", "undo", "free", "guests",
    "sells S", "offers", "best S W", "numbers",
]]


class Wrong(Exception):
    """The word with an index cannot stand."""


def is_figures(word):
    return word != "" and all(sign in "0123456789" for sign in word)


def word_at(words, at):
    return words[at] if at < len(words) else None


def need(words, at, told):
    if word_at(words, at) not in told:
        raise Wrong(at)
    return at + 1


def list_of(words, at, above, most):
    """The numbers of a list that begins at a word: (numbers, the place behind)."""
    numbers = []
    while at < len(words) and (not numbers or is_figures(words[at])):
        if words[at] not in FIGURES or not above < int(words[at]) <= most:
            raise Wrong(at)
        above = int(words[at])
        numbers.append(above)
        at += 1
    if not numbers:
        raise Wrong(at)
    return numbers, at


def number_at(words, at, least, most):
    if word_at(words, at) not in FIGURES or not least <= int(words[at]) <= most:
        raise Wrong(at)
    return int(words[at]), at + 1


def days_at(words, at):
    begin = at
    if word_at(words, at) in ("none", "every"):
        return at + 1
    at = need(words, at, ["by"])
    period, at = number_at(words, at, 1, 7)
    at = need(words, at, ["at"])
    rests, at = list_of(words, at, -1, period - 1)
    if str(Days(period, rests)) != " ".join(words[begin:at]):
        raise Wrong(begin)
    return at


def lengths_at(words, at):
    """The Lengths that begins at a word: (Lengths, the place behind)."""
    begin, low = at, []
    if word_at(words, at) == "none":
        return Lengths.none(), at + 1
    if word_at(words, at) != "from":
        low, at = list_of(words, at, -1, 399)
    made = (400, low)
    if word_at(words, at) == "from":
        start, at = number_at(words, at + 1, low[-1] + 1 if low else 0, 400)
        at = need(words, at, ["by"])
        period, at = number_at(words, at, 1, 400)
        at = need(words, at, ["at"])
        rests, at = list_of(words, at, -1, period - 1)
        made = (start, low, period, rests)
    try:
        lengths = Lengths(*made)
    except (BadLengths, TooMany):
        raise Wrong(begin) from None
    if str(lengths) != " ".join(words[begin:at]):
        raise Wrong(begin)
    return lengths, at


def book_at(words, at):
    begin, rows = at, []
    at = need(words, at, ["day"])
    while True:
        row, at = lengths_at(words, at)
        rows.append(row)
        if len(rows) == 7 or word_at(words, at) != "day":
            break
        at += 1
    try:
        book = Book.by_days(*rows)
    except TooMany:
        raise Wrong(begin) from None
    if str(book) != " ".join(words[begin:at]):
        raise Wrong(begin)
    return at


def rule_at(words, at):
    word = word_at(words, at)
    at = need(words, at, ["comes", "goes", "holds", "within", "lasts", "and", "or", "not"])
    if word == "lasts":
        return lengths_at(words, at)[1]
    if word in ("and", "or"):
        return rule_at(words, rule_at(words, at))
    return rule_at(words, at) if word == "not" else days_at(words, at)


def door_at(words, at):
    word = word_at(words, at)
    at = need(words, at, ["ahead", "behind", "lets", "weakest", "all", "some", "no"])
    if word == "behind" and word_at(words, at) == "endless":
        at += 1
    if word in ("ahead", "behind"):
        return lengths_at(words, at)[1]
    if word == "lets":
        return rule_at(words, at)
    if word == "weakest":
        return book_at(words, at)
    if word == "no":
        return door_at(words, at)
    many, at = number_at(words, at, 0, 29)
    for _ in range(many):
        at = door_at(words, at)
    return at


def wrong_word(text, part_at):
    """The index of the first word of a text that cannot stand; None if all can."""
    words = text.split(" ")
    try:
        at = part_at(words, 0)
    except Wrong as wrong:
        return wrong.args[0]
    return at if at < len(words) else None


def integer_at(words, at, least, most):
    """The place behind a number as str writes it, of up to twelve digits."""
    word = word_at(words, at)
    digits = word[1:] if word and word.startswith("-") else word
    if not word or len(digits) > 12 or not is_figures(digits) or str(int(word)) != word:
        raise Wrong(at)
    if not least <= int(word) <= most:
        raise Wrong(at)
    return at + 1


def guest_at(words, at):
    word = word_at(words, at)
    if not word or len(word) > 8 or not all(sign in "abcdefghijklmnopqrstuvwxyz" for sign in word):
        raise Wrong(at)
    return at + 1


def stay_at(words, at):
    first, sign, nights = (word_at(words, at) or "").partition("+")
    try:
        integer_at([first, nights], 0, -LAST_DAY, LAST_DAY)
        integer_at([first, nights], 1, 1, 400)
    except Wrong:
        raise Wrong(at) from None
    if sign != "+" or int(first) + int(nights) > LAST_DAY:
        raise Wrong(at)
    return at + 1


def value_at(words, at, kind):
    if kind == "BOOK":
        return book_at(words, at)
    if kind in "NS":
        return guest_at(words, at) if kind == "N" else stay_at(words, at)
    return integer_at(words, at, *{"R": (1, 12), "D": (-LAST_DAY, LAST_DAY), "W": (0, 10 ** 9)}[kind])


def line_at(words, at):
    """The place behind a line for a desk, by the forms of the document's table."""
    for word, *kinds in LINES:
        if word_at(words, at) == word:
            break
    else:
        raise Wrong(at)
    at += 1
    for kind in kinds:
        at = value_at(words, at, kind)
    if word == "best":
        pairs = 1
        while pairs < 8 and at < len(words):
            at = stay_at(words, at)
            at = value_at(words, at, "W")
            pairs += 1
    return at
