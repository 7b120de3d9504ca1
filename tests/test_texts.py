"""Points [2] and [7], and of the heading of the texts all that is told of nodeadnight/texts.py."""

import unittest

from nodeadnight.calendars import Calendar
from nodeadnight.reader import read_calendar
from nodeadnight.errors import BadCalendar
from nodeadnight.stays import Stay
from nodeadnight.texts import calendar_text
from papers import SMALL, THREE_ROOMS, name_of
from values import LAST, Checks, none_of


class TextTest(Checks, unittest.TestCase):
    def test_known(self):
        calendar = Calendar(2, -1, 4)
        self.same(calendar_text(calendar), "calendar 2 -1 4")
        calendar["cy"], calendar["ann"], calendar["bo"] = Stay(-1, 2), Stay(2, 4), Stay(0, 1)
        self.same(calendar_text(calendar=calendar), "calendar 2 -1 4\nguest ann 2+2\nguest bo 0+1\nguest cy -1+3")
        self.same(calendar.names, ("cy", "ann", "bo"))
        calendar["annb"], calendar["anna"] = Stay(-1, 0), Stay(1, 2)
        self.same([line.split()[1] for line in calendar_text(calendar).split("\n")][1:],
                  ["ann", "anna", "annb", "bo", "cy"])

    def test_read_back(self):
        for calendar, _ in SMALL + THREE_ROOMS:
            text = calendar_text(calendar)
            again = read_calendar(text)
            self.same([again == calendar, calendar_text(again) == text, again.names == tuple(sorted(calendar.names))],
                      [True, True, True])

    def test_greatest(self):
        calendar = Calendar(12, LAST - 40, LAST)
        for number in range(100):
            calendar[name_of(number)] = Stay(LAST - 40 + number % 40, LAST - 39 + number % 40)
        self.same(len(calendar_text(calendar).split("\n")), 101)
        self.same(read_calendar(calendar_text(calendar)) == calendar, True)
        far = Calendar(1, -LAST, 40 - LAST)
        far["abcdefgh"] = Stay(-LAST, 40 - LAST)
        self.same(calendar_text(far), f"calendar 1 {-LAST} {40 - LAST}\nguest abcdefgh {-LAST}+40")

    def test_wrong_values(self):
        for value in none_of(Calendar):
            self.refused(BadCalendar, {"part": "calendar"}, calendar_text, value)


if __name__ == "__main__":
    unittest.main()
