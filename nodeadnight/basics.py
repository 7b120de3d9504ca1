"""What several modules ask of values, of words of a text and of marks that come round."""

LAST_DAY = 999999999999
DIGITS = 12
LETTERS = 8


def is_whole(value):
    """Whether any value is an integer, that is an int but no bool."""
    return isinstance(value, int) and not isinstance(value, bool)


def is_from(value, least, most):
    """Whether any value is an integer from least to most."""
    return is_whole(value) and least <= value <= most


def are_from(values, least, most):
    """Whether any value is a list or tuple of integers from least to most."""
    return isinstance(values, (list, tuple)) and all([is_from(value, least, most) for value in values])


def is_day(value):
    """Whether any value is a day."""
    return is_from(value, -LAST_DAY, LAST_DAY)


def is_name(value):
    """Whether any value is a name of a guest."""
    return isinstance(value, str) and 1 <= len(value) <= LETTERS and all(["a" <= sign <= "z" for sign in value])


def read_number(word):
    """The integer that str writes as this word; None if there is none, or if it has too many digits for a day."""
    digits = word.removeprefix("-")
    # The length is asked first: Python refuses to read a number of thousands of digits.
    if len(digits) > DIGITS or not digits.isdecimal():
        return None
    number = int(word)
    return number if str(number) == word else None


def marked(size, numbers):
    """For each number from 0 below size, whether it is one of these numbers."""
    marks = [False] * size
    for n in numbers:
        marks[n] = True
    return marks


def least_period(turn):
    """The least period of what comes round by these marks."""
    size = len(turn)
    for period in range(1, size):
        # All periods are multiples of the least one, so it is among the divisors.
        if size % period == 0 and turn[period:] + turn[:period] == turn:
            return period
    return size
