"""Points [2] and [7], and the heading nodeadnight/calendars.py."""

import inspect
import itertools
import unittest

from nodeadnight.calendars import Calendar
from nodeadnight.errors import (
    BadCalendar, BadCount, BadName, BadStay, Full, NoGuest, Outside, StayError, Taken, TooMany,
)
from nodeadnight.stays import Stay
from values import FAR, LAST, NO_INTEGERS, VALUES, Checks, no_days, none_of, shuffled

NO_NAMES = [value for value in VALUES if not isinstance(value, str) or value in ("", "1")] + [
    "Ann", "ann ", "abcdefghi", "an-n", "a1", "a b", "a\n", "\u00e4", "`", "{", "annA",
]

# Values that no guest is called, among them names.
NO_GUESTS = NO_NAMES + ["cy", "annb", "zzzzzzzz", "none"]


def name_of(number):
    """Different names for different numbers, not in their order."""
    return "".join("abcdefghij"[int(sign)] for sign in str(number * 7 + 11))


def filled(source):
    """A calendar with guests, all of whom found a room."""
    first = source.choice([-LAST, -7, 0, 12, LAST - 40])
    calendar = Calendar(source.randint(1, 12), first, first + source.randint(1, 40))
    nights = source.choice([1, 3, 9, 40])
    for number in range(source.choice([3, 10, 60])):
        day = source.randrange(calendar.first, calendar.after)
        stay = Stay(day, min(calendar.after, day + source.randint(1, nights)))
        if all(calendar.free(night) for night in stay):
            calendar[name_of(number)] = stay
    return calendar


CALENDARS = shuffled(71, 40, filled)


def inn():
    calendar = Calendar(2, 0, 5)
    calendar["bo"], calendar["ann"], calendar["dee"] = Stay(1, 3), Stay(2, 5), Stay(3, 4)
    return calendar


def state(calendar):
    """All that can be seen of a calendar."""
    return (calendar.rooms, calendar.first, calendar.after, calendar.names,
            [str(calendar[name]) for name in calendar.names], calendar.free_rooms)


class CalendarTest(Checks, unittest.TestCase):
    def test_attributes(self):
        for rooms, first, nights in itertools.product([1, 12], [-LAST, -1, 0, LAST - 40], [1, 40]):
            calendar = Calendar(after=first + nights, rooms=rooms, first=first)
            self.same([calendar.rooms, calendar.first, calendar.after], [rooms, first, first + nights])
            self.same([calendar.free_rooms, len(calendar), calendar.names], [(rooms,) * nights, 0, ()])
        self.same(Calendar(1, LAST - 1, LAST).after, LAST)

    def test_most(self):
        for kind in [Calendar, inn()]:
            self.same([kind.ROOMS, kind.NIGHTS, kind.GUESTS], [12, 40, 100])

    def test_wrong_parts(self):
        for value in NO_INTEGERS + [0, 13, -1, FAR]:
            self.refused(BadCalendar, {"part": "rooms"}, Calendar, value, 0, 1)
            self.refused(BadCalendar, {"part": "rooms"}, Calendar, value, value, value)
        for value in no_days():
            self.refused(BadCalendar, {"part": "first"}, Calendar, 1, value, 1)
            self.refused(BadCalendar, {"part": "first"}, Calendar, 1, value, value)
        for value in no_days() + [0, -1, 41]:
            self.refused(BadCalendar, {"part": "after"}, Calendar, 1, 0, value)
        self.refused(BadCalendar, {"part": "after"}, Calendar, 12, LAST - 1, LAST + 1)
        self.refused(BadCalendar, {"part": "after"}, Calendar, 12, LAST, LAST)

    def test_own_methods(self):
        self.defines(Calendar, [
            "__init__", "__setitem__", "__iadd__", "__getitem__", "__contains__", "__len__", "__iter__", "names",
            "drop", "guests", "free", "free_rooms", "supply", "room_plan", "with_rooms", "twin", "trial", "tried",
            "__eq__",
        ])


class GuestsTest(Checks, unittest.TestCase):
    def test_setting_and_reading(self):
        calendar = inn()
        self.same([calendar.names, list(calendar), [name for name in calendar]],
                  [("bo", "ann", "dee"), ["bo", "ann", "dee"], ["bo", "ann", "dee"]])
        self.same([str(calendar["ann"]), str(calendar["bo"]), len(calendar)], ["2+3", "1+2", 3])
        self.same(["bo" in calendar, "cy" in calendar, "Bo" in calendar], [True, False, False])
        stay = Stay(0, 1)
        calendar["abcdefgh"] = stay
        self.assertIs(calendar["abcdefgh"], stay)

    def test_values_of_other_kinds_are_no_guests(self):
        for value in NO_GUESTS:
            self.same(value in inn(), False)
            self.refused(NoGuest, {"name": value}, lambda: inn()[value])
            self.refused(NoGuest, {"name": value}, inn().drop, value)

    def test_drop(self):
        calendar = inn()
        self.same([str(calendar.drop(name="ann")), calendar.names, "ann" in calendar], ["2+3", ("bo", "dee"), False])
        self.same(calendar.free_rooms, (2, 1, 1, 1, 2))
        calendar["ann"] = Stay(0, 5)
        self.same(calendar.names, ("bo", "dee", "ann"))

    def test_guests(self):
        self.assertTrue(inspect.isgenerator(inn().guests()))
        self.same([(name, str(stay)) for name, stay in inn().guests()],
                  [("ann", "2+3"), ("bo", "1+2"), ("dee", "3+1")])
        for calendar in CALENDARS:
            pairs = list(calendar.guests())
            self.same([name for name, _ in pairs], sorted(calendar.names))
            self.same([calendar[name] for name, _ in pairs], [stay for _, stay in pairs])

    def test_guests_are_those_of_the_first_step(self):
        calendar = inn()
        walk = calendar.guests()
        calendar.drop("ann")
        self.same(next(walk), ("bo", Stay(1, 3)))
        calendar["cy"] = Stay(2, 3)
        calendar.drop("dee")
        self.same(list(walk), [("dee", Stay(3, 4))])

    def test_two_walks_at_once(self):
        calendar = inn()
        self.same([(a, b) for a in calendar for b in calendar], list(itertools.product(calendar.names, calendar.names)))
        one, other = calendar.guests(), calendar.guests()
        self.same([next(one)[0], next(one)[0], next(other)[0], next(one)[0]], ["ann", "bo", "ann", "dee"])

    def test_in_place(self):
        calendar = same = inn()
        calendar += ("cy", Stay(0, 2))
        self.assertIs(calendar, same)
        self.same([calendar.names, str(calendar["cy"])], [("bo", "ann", "dee", "cy"), "0+2"])

    def test_errors_in_their_order(self):
        stay, full, late = Stay(0, 1), Stay(0, 5), Stay(0, 6)
        for value in NO_NAMES:
            self.refused_deed(BadName, {"value": value}, value, None)
        self.refused_deed(Taken, {"name": "ann"}, "ann", None)
        self.refused_deed(Taken, {"name": "ann"}, "ann", stay)
        for value in none_of(Stay):
            self.refused_deed(BadStay, {"part": "stay"}, "cy", value)
        for outside in [late, Stay(-1, 1), Stay(-1, 6), Stay(5, 6), Stay(-3, -1), Stay(2, 400)]:
            self.refused_deed(Outside, {"stay": outside}, "cy", outside)
        self.refused_deed(Full, {"night": 2}, "cy", full)
        self.refused_deed(Full, {"night": 3}, "cy", Stay(3, 5))

    def refused_deed(self, error, fields, name, stay):
        calendar = inn()
        before = state(calendar)

        def add():
            same = calendar
            same += (name, stay)

        self.refused(error, fields, lambda: calendar.__setitem__(name, stay))
        self.refused(error, fields, add)
        self.assertEqual(state(calendar), before)

    def test_first_full_night(self):
        calendar = Calendar(1, 0, 9)
        calendar["a"], calendar["b"] = Stay(3, 4), Stay(6, 8)
        for stay in [Stay(first, after) for first in range(9) for after in range(first + 1, 10)]:
            taken = [night for night in stay if night in (3, 6, 7)]
            if taken:
                self.refused(Full, {"night": taken[0]}, lambda: calendar.__setitem__("c", stay))

    def test_a_hundred_guests(self):
        calendar = Calendar(12, 0, 40)
        for number in range(99):
            calendar[name_of(number)] = Stay(number % 10, number % 10 + 1)
        calendar["last"] = Stay(20, 21)
        self.same(len(calendar), 100)
        before = state(calendar)
        many = {"what": "guests", "most": 100}
        self.refused(TooMany, many, lambda: calendar.__setitem__("more", Stay(30, 31)))
        self.refused(TooMany, many, lambda: calendar.__iadd__(("more", Stay(30, 31))))
        self.refused(Taken, {"name": "last"}, lambda: calendar.__setitem__("last", Stay(30, 31)))
        self.refused(Outside, {"stay": Stay(39, 41)}, lambda: calendar.__setitem__("more", Stay(39, 41)))
        self.assertEqual(state(calendar), before)
        calendar.drop("last")
        calendar["more"] = Stay(30, 31)
        self.same([len(calendar), calendar.names[-1]], [100, "more"])

    def test_full_ahead_of_too_many(self):
        calendar = Calendar(12, 0, 40)
        for number in range(100):
            calendar[name_of(number)] = Stay(number // 12, number // 12 + 1)
        self.refused(Full, {"night": 7}, lambda: calendar.__setitem__("more", Stay(7, 10)))
        self.refused(TooMany, {"what": "guests", "most": 100}, lambda: calendar.__setitem__("more", Stay(8, 10)))

    def test_last_days(self):
        calendar = Calendar(1, LAST - 2, LAST)
        calendar["a"] = Stay(LAST - 1, LAST)
        self.same([calendar.free_rooms, calendar.supply(LAST), calendar.supply(LAST - 1)], [(1, 0), 0, -1])
        calendar = Calendar(1, -LAST, 2 - LAST)
        calendar["a"] = Stay(-LAST, 1 - LAST)
        self.same([calendar.free_rooms, calendar.supply(-LAST)], [(0, 1), 0])


class RoomsTest(Checks, unittest.TestCase):
    def test_free_and_supply(self):
        for calendar in CALENDARS:
            stays = [stay for _, stay in calendar.guests()]
            nights = range(calendar.first, calendar.after)
            free = {night: calendar.rooms - sum(night in stay for stay in stays) for night in nights}
            self.same(calendar.free_rooms, tuple(free.values()))
            for night in nights:
                self.same(calendar.free(night=night), free[night])
            for day in range(calendar.first, calendar.after + 1):
                self.same(calendar.supply(day=day), free.get(day, 0) - free.get(day - 1, 0))

    def test_wrong_nights_and_days(self):
        for value in NO_INTEGERS + [-1, 5, FAR, -FAR]:
            self.refused(BadCount, {"value": value}, inn().free, value)
        for value in NO_INTEGERS + [-1, 6, FAR, -FAR]:
            self.refused(BadCount, {"value": value}, inn().supply, value)
        self.same([inn().free(0), inn().free(4), inn().supply(0), inn().supply(5)], [2, 1, 2, -1])

    def test_room_plan(self):
        for calendar in CALENDARS:
            names = sorted(calendar.names, key=lambda name: (calendar[name].first, len(calendar[name]), name))
            plan = {}
            for name in names:
                plan[name] = next(room for room in range(12) if not any(
                    plan[other] == room and calendar[other].meets(calendar[name]) for other in plan))
            self.assertEqual(calendar.room_plan(), plan)
            self.assertTrue(all(type(room) is int and room < calendar.rooms for room in plan.values()))

    def test_room_plan_of_equal_stays(self):
        calendar = Calendar(3, 0, 4)
        for name, stay in [("cy", Stay(0, 2)), ("bo", Stay(0, 2)), ("al", Stay(0, 3)), ("dee", Stay(2, 3))]:
            calendar[name] = stay
        self.same(calendar.room_plan() == {"bo": 0, "cy": 1, "al": 2, "dee": 0}, True)

    def test_room_plan_of_the_longest_stays(self):
        calendar = Calendar(3, 0, 40)
        for name, stay in [("bo", Stay(0, 40)), ("al", Stay(1, 2)), ("cy", Stay(1, 40))]:
            calendar[name] = stay
        self.same(calendar.room_plan() == {"bo": 0, "al": 1, "cy": 2}, True)

    def test_room_plan_is_the_callers(self):
        calendar = inn()
        plan = calendar.room_plan()
        plan.clear()
        self.same(calendar.room_plan() == {"bo": 0, "ann": 1, "dee": 0}, True)

    def test_with_rooms(self):
        for calendar in CALENDARS:
            taken = [calendar.rooms - free for free in calendar.free_rooms]
            for rooms in range(1, 13):
                nights = [calendar.first + at for at, many in enumerate(taken) if many > rooms]
                if nights:
                    self.refused(Full, {"night": nights[0]}, calendar.with_rooms, rooms)
                    continue
                other = calendar.with_rooms(rooms=rooms)
                self.same(other.free_rooms, tuple(rooms - many for many in taken))
                self.same((other.rooms, other.names), (rooms, calendar.names))
                self.same([other[name] for name in other], [calendar[name] for name in calendar])

    def test_with_rooms_goes_its_own_way(self):
        for make in [lambda calendar: calendar.with_rooms(3), lambda calendar: calendar.twin()]:
            calendar = inn()
            other = make(calendar)
            other.drop("ann")
            other["cy"] = Stay(0, 1)
            self.same([calendar.names, other.names], [("bo", "ann", "dee"), ("bo", "dee", "cy")])
            calendar.drop("dee")
            self.same("dee" in other, True)

    def test_wrong_rooms(self):
        for value in NO_INTEGERS + [0, 13, -1, FAR]:
            self.refused(BadCalendar, {"part": "rooms"}, inn().with_rooms, value)
        self.refused(Full, {"night": 2}, inn().with_rooms, 1)

    def test_twin(self):
        for calendar in CALENDARS:
            self.same([calendar.twin() == calendar, calendar.twin().names == calendar.names], [True, True])


class TrialTest(Checks, unittest.TestCase):
    def change(self, calendar):
        calendar.drop("bo")
        calendar["cy"] = Stay(0, 2)
        calendar["bo"] = Stay(2, 3)

    def test_block(self):
        calendar = inn()
        before = state(calendar)
        with calendar.trial() as same:
            self.assertIs(same, calendar)
            self.change(same)
            self.same(calendar.names, ("ann", "dee", "cy", "bo"))
        self.assertEqual(state(calendar), before)

    def test_error(self):
        calendar = inn()
        before = state(calendar)
        for error in [ValueError, NoGuest, KeyboardInterrupt]:
            with self.assertRaises(error):
                with calendar.trial() as same:
                    self.change(same)
                    raise error("x")
            self.assertEqual(state(calendar), before)

    def test_nested(self):
        calendar = inn()
        before = state(calendar)
        with calendar.trial():
            self.change(calendar)
            between = state(calendar)
            with calendar.trial():
                calendar.drop("cy")
                calendar.drop("bo")
            self.assertEqual(state(calendar), between)
            with self.assertRaises(StayError):
                with calendar.trial():
                    calendar.drop("cy")
                    calendar.drop("cy")
            self.assertEqual(state(calendar), between)
        self.assertEqual(state(calendar), before)

    def test_it_is_as_it_was_when_the_block_began(self):
        calendar = inn()
        trial = calendar.trial()
        calendar.drop("ann")
        with trial:
            calendar.drop("bo")
        self.same(calendar.names, ("bo", "dee"))

    def test_changes_behind_the_block_stay(self):
        calendar = inn()
        with calendar.trial():
            self.change(calendar)
        calendar.drop("ann")
        self.same(calendar.names, ("bo", "dee"))
        with calendar.trial():
            pass
        self.same(calendar.names, ("bo", "dee"))

    def test_tried(self):
        calendar = inn()
        before = state(calendar)

        def work(same):
            self.assertIs(same, calendar)
            self.change(same)
            return same.tried(work=lambda again: [again.drop("cy"), again.names, again])

        stay, names, same = calendar.tried(work=work)
        self.same([str(stay), names], ["0+2", ("ann", "dee", "bo")])
        self.assertIs(same, calendar)
        self.assertEqual(state(calendar), before)
        self.refused(NoGuest, {"name": "cy"}, calendar.tried, lambda same: same.drop("cy"))
        self.assertEqual(state(calendar), before)


class EqualTest(Checks, unittest.TestCase):
    def test_order_of_names_plays_no_part(self):
        one, other = inn(), Calendar(2, 0, 5)
        other["dee"], other["ann"], other["bo"] = Stay(3, 4), Stay(2, 5), Stay(1, 3)
        self.same([one == other, one != other, one.names == other.names], [True, False, False])

    def test_each_part_counts(self):
        one = inn()
        for other in [inn().with_rooms(3), Calendar(2, 0, 5), Calendar(2, 0, 6), Calendar(2, -1, 5)]:
            if other.names == ():
                for name, stay in one.guests():
                    other[name] = stay
                if (other.first, other.after) == (0, 5):
                    other.drop("bo")
            self.same([one == other, other == one, one != other], [False, False, True])
        other = inn()
        other.drop("bo")
        other["bo"] = Stay(1, 2)
        self.same(one == other, False)
        other.drop("bo")
        other["boo"] = Stay(1, 3)
        self.same([one == other, Calendar(1, 0, 1) == Calendar(1, 0, 1)], [False, True])

    def test_other_values(self):
        self.alone(inn(), VALUES)
        self.alone(Calendar(1, 0, 2), none_of(Calendar))


if __name__ == "__main__":
    unittest.main()
