"""The words of a line, taken one after another, and the sets that they tell of."""

from nodeadnight.basics import is_name, read_number
from nodeadnight.books import Book
from nodeadnight.days import Days
from nodeadnight.errors import BadText, TooMany
from nodeadnight.lengths import Lengths
from nodeadnight.stays import Stay

GREATEST = 399


class Words:
    """The words of a line of a text, and the place of the next one to be taken."""

    def __init__(self, text, line):
        self.words = text.split(" ")
        self.line = line
        self.place = 0

    def ahead(self):
        """The next word; an empty one, which cannot stand anywhere, if there is none."""
        return self.words[self.place] if self.place < len(self.words) else ""

    def take(self, words):
        """Takes the next word, which is one of these, and returns it."""
        word = self.ahead()
        if word not in words:
            raise BadText(self.line, self.place)
        self.place = self.place + 1
        return word

    def skip(self, word):
        """Takes the next word if it is this one, and tells whether it is."""
        if self.ahead() != word:
            return False
        self.place = self.place + 1
        return True

    def take_number(self, least, most):
        """Takes the next word, a number from least to most, and returns the number."""
        number = read_number(self.ahead())
        if number is None or not least <= number <= most:
            raise BadText(self.line, self.place)
        self.place = self.place + 1
        return number

    def take_name(self, last):
        """Takes the next word, a name above the last one, and returns it."""
        name = self.ahead()
        if not is_name(name) or name <= last:
            raise BadText(self.line, self.place)
        self.place = self.place + 1
        return name

    def take_stay(self):
        """Takes the next word, the text of a Stay, and returns the Stay."""
        try:
            stay = Stay.read(self.ahead())
        except BadText:
            raise BadText(self.line, self.place) from None
        self.place = self.place + 1
        return stay

    def take_numbers(self, least, most):
        """Takes all figures that stand next, ascending numbers from least to most, one of them at the least."""
        numbers = [self.take_number(least, most)]
        while self.ahead().isdecimal():
            numbers.append(self.take_number(numbers[-1] + 1, most))
        return numbers

    def check_text(self, begin, text):
        """Refuses the words from a place on if they are not those of a text."""
        if " ".join(self.words[begin:self.place]) != text:
            raise BadText(self.line, begin)

    def is_at_end(self):
        """Whether all words are taken."""
        return self.place == len(self.words)

    def check_end(self):
        """Refuses a word too many."""
        if not self.is_at_end():
            raise BadText(self.line, self.place)


def take_days(words):
    """Takes the text of a Days, and returns the Days."""
    begin = words.place
    word = words.take(("none", "every", "by"))
    if word == "none":
        return Days.none()
    if word == "every":
        return Days.every()
    period = words.take_number(1, Days.MOST)
    words.take(("at",))
    days = Days(period, words.take_numbers(0, period - 1))
    words.check_text(begin, str(days))
    return days


def take_lengths(words):
    """Takes the text of a Lengths, and returns the Lengths."""
    begin = words.place
    if words.skip("none"):
        return Lengths.none()
    low = [] if words.ahead() == "from" else words.take_numbers(0, GREATEST)
    start, period, rests = Lengths.MOST, 1, []
    if words.skip("from"):
        start = words.take_number(low[-1] + 1 if low else 0, Lengths.MOST)
        words.take(("by",))
        period = words.take_number(1, Lengths.MOST)
        words.take(("at",))
        rests = words.take_numbers(0, period - 1)
    try:
        lengths = Lengths(start, low, period, rests)
    except TooMany:
        raise BadText(words.line, begin) from None
    words.check_text(begin, str(lengths))
    return lengths


def take_book(words):
    """Takes the text of a book, and returns the book."""
    begin = words.place
    rows = []
    while not rows or len(rows) < Book.ROUND and words.ahead() == "day":
        words.take(("day",))
        rows.append(take_lengths(words))
    try:
        book = Book.by_days(*rows)
    except TooMany:
        raise BadText(words.line, begin) from None
    words.check_text(begin, str(book))
    return book
