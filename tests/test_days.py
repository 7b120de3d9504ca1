"""Points [2] and [3], and the heading nodeadnight/days.py."""

import itertools
import math
import unittest

from nodeadnight.days import Days
from nodeadnight.errors import BadCount, BadDays, BadText, TooMany
from values import FAR, NO_INTEGERS, NO_ROWS, NO_STRINGS, Checks

SPAN = range(-430, 430)

# All sets of days that there are, in whatever form.
ROWS = [(period, rests) for period in range(1, 8)
        for many in range(period + 1) for rests in itertools.combinations(range(period), many)]
SETS = [Days(*row) for row in ROWS]

# Of these, enough to take all pairs.
SOME = [days for at, days in enumerate(SETS) if at % 4 == 1] + [Days.none(), Days.every()]


def marks(days):
    return [d in days for d in SPAN]


class LeastFormTest(Checks, unittest.TestCase):
    def test_period_is_least(self):
        self.same((Days(4, [1, 3]).period, Days(4, [1, 3]).rests), (2, (1,)))
        self.same((Days(6, (0, 3)).period, Days(6, (0, 3)).rests), (3, (0,)))
        self.same((Days(7, []).period, Days(7, []).rests), (1, ()))
        self.same((Days(5, [0, 1, 2, 3, 4]).period, Days(5, (0, 1, 2, 3, 4)).rests), (1, (0,)))
        self.same((Days(6, [0, 3, 4]).period, Days(6, [0, 3, 4]).rests), (6, (0, 3, 4)))

    def test_each_set(self):
        for (period, rests), days in zip(ROWS, SETS):
            self.assertEqual(marks(days), [d % period in rests for d in SPAN])
            least = next(p for p in range(1, 8) if all((d in days) == (d + p in days) for d in SPAN))
            self.same((days.period, days.rests), (least, tuple(n for n in range(least) if n in days)))

    def test_order_duplicates_and_kind_of_rests_play_no_part(self):
        self.assertEqual(str(Days(7, [6, 5, 6])), "by 7 at 5 6")
        self.assertEqual(str(Days(rests=(6, 5, 6), period=7)), "by 7 at 5 6")

    def test_later_changes_of_the_arguments_have_no_effect(self):
        rests = [1]
        days = Days(3, rests)
        rests.append(2)
        self.assertEqual((str(days), rests), ("by 3 at 1", [1, 2]))

    def test_static_methods(self):
        self.assertEqual(str(Days.on(7, 6, 5, 6)), "by 7 at 5 6")
        self.assertEqual(str(Days.on(7)), "none")
        self.same((Days.every().period, Days.every().rests), (1, (0,)))
        self.same((Days.none().period, Days.none().rests), (1, ()))
        self.assertEqual(Days.none().on(1, 0), Days.none().every())

    def test_most(self):
        self.same((Days.MOST, Days.every().MOST), (7, 7))

    def test_sets_cannot_be_changed_by_their_properties(self):
        days = Days.on(7, 1)
        for name in ["period", "rests"]:
            with self.assertRaises(AttributeError):
                setattr(days, name, 1)
        self.assertEqual(str(days), "by 7 at 1")


class WrongPartsTest(Checks, unittest.TestCase):
    def test_period(self):
        for value in NO_INTEGERS + [0, 8, -1, FAR, -FAR]:
            self.refused(BadDays, {"part": "period"}, Days, value, ())
            self.refused(BadDays, {"part": "period"}, Days, value, None)
            self.refused(BadDays, {"part": "period"}, Days.on, value)
            self.refused(BadDays, {"part": "period"}, Days.on, value, "wrong")

    def test_rests(self):
        for value in NO_ROWS:
            self.refused(BadDays, {"part": "rests"}, Days, 7, value)
        for item in NO_INTEGERS + [-1, 3, 7, FAR, -FAR]:
            self.refused(BadDays, {"part": "rests"}, Days, 3, [item])
            self.refused(BadDays, {"part": "rests"}, Days, 3, (0, 2, item))
            self.refused(BadDays, {"part": "rests"}, Days.on, 3, 2, item)


class DaysTest(Checks, unittest.TestCase):
    def test_far_days(self):
        sat = Days.on(7, 6)
        self.same([-1 in sat, -8 in sat, 6 in sat, 0 in sat, -7 in sat], [True, True, True, False, False])
        self.same([7 * FAR - 1 in sat, -7 * FAR - 1 in sat, 7 * FAR in sat], [True, True, False])

    def test_values_of_other_kinds_are_no_days(self):
        for value in NO_INTEGERS:
            self.same(value in Days.every(), False)

    def test_following(self):
        for days in SETS:
            for d in range(-16, 16):
                expected = next((k for k in range(d, d + 8) if k in days), None)
                self.same(days.following(d), expected)
        self.same(Days.on(7, 3).following(d=7 * FAR + 4), 7 * FAR + 10)
        self.same(Days.on(7, 3).following(-7 * FAR), -7 * FAR + 3)
        self.same(Days.none().following(FAR), None)

    def test_following_of_wrong_values(self):
        for value in NO_INTEGERS:
            self.refused(BadCount, {"value": value}, Days.every().following, value)
            self.refused(BadCount, {"value": value}, Days.none().following, value)

    def test_moved(self):
        for days in SETS:
            for k in [-15, -7, -1, 0, 1, 2, 6, 9, FAR, -FAR]:
                later, earlier = days >> k, days << k
                self.assertEqual(marks(later), [d - k in days for d in SPAN])
                self.assertEqual(marks(earlier), [d + k in days for d in SPAN])
        self.assertEqual(str(Days.on(7, 5, 6) >> 1), "by 7 at 0 6")
        self.assertEqual(str(Days.on(7, 0) << 1), "by 7 at 6")

    def test_in_place(self):
        first = days = Days.on(6, 0, 1)
        days >>= 2
        self.assertEqual(str(days), "by 6 at 2 3")
        days <<= 1
        self.assertEqual(str(days), "by 6 at 1 2")
        days |= Days.on(3, 0)
        self.assertEqual(str(days), "by 6 at 0 1 2 3")
        days &= Days.on(2, 1)
        self.assertEqual(str(days), "by 6 at 1 3")
        days -= Days.on(3, 0)
        self.assertEqual(str(days), "by 6 at 1")
        self.assertEqual(str(first), "by 6 at 0 1")


class OperatorsTest(Checks, unittest.TestCase):
    def test_sets(self):
        for one, other in itertools.product(SOME, SOME):
            if math.lcm(one.period, other.period) > 7:
                for work in [lambda: one & other, lambda: one | other, lambda: one - other]:
                    self.refused(TooMany, {"what": "days", "most": 7}, work)
                continue
            pairs = list(zip(marks(one), marks(other)))
            self.assertEqual(marks(one & other), [a and b for a, b in pairs])
            self.assertEqual(marks(one | other), [a or b for a, b in pairs])
            self.assertEqual(marks(one - other), [a and not b for a, b in pairs])

    def test_periods_are_those_of_the_least_forms(self):
        self.assertEqual(str(Days(6, [0, 2, 4]) & Days.on(4, 0)), "by 4 at 0")
        self.assertEqual(str(Days(6, []) | Days.on(7, 0)), "by 7 at 0")
        self.assertEqual(str(Days.on(2, 0) | Days.on(3, 0)), "by 6 at 0 2 3 4")
        self.assertEqual(str((Days.on(2, 0) & Days.on(4, 1)) | Days.on(5, 0)), "by 5 at 0")
        self.refused(TooMany, {"what": "days", "most": 7}, lambda: Days.on(2, 0) - Days.on(5, 0))

    def test_invert(self):
        for days in SETS:
            self.assertEqual(marks(~days), [not mark for mark in marks(days)])
            self.same(~~days == days, True)

    def test_order_is_never_refused(self):
        for one, other in itertools.product(SOME, SOME):
            pairs = list(zip(marks(one), marks(other)))
            within, around = all(b or not a for a, b in pairs), all(a or not b for a, b in pairs)
            self.same([one <= other, one >= other], [within, around])
            self.same([one < other, one > other], [within and not around, around and not within])
            self.same([one == other, one != other], [within and around, not (within and around)])

    def test_equal(self):
        self.same([Days(4, [3, 1]) == Days(6, (1, 3, 5)), Days(4, [3, 1]) != Days(2, (1,))], [True, False])
        for value in NO_INTEGERS + [1, FAR]:
            if not isinstance(value, Days):
                self.same([Days.every() == value, value == Days.every()], [False, False])
                self.same([Days.every() != value, value != Days.every()], [True, True])

    def test_bool(self):
        for days in SETS:
            self.same(bool(days), any(marks(days)))


class TextTest(Checks, unittest.TestCase):
    def test_str_and_read(self):
        for days in SETS:
            rests = " ".join(str(n) for n in days.rests)
            text = {(): "none", (0,): "every"}.get(days.rests) if days.period == 1 else f"by {days.period} at {rests}"
            self.same(str(days), text)
            self.assertEqual(Days.read(text=text), days)
        self.assertEqual(Days.every().read("none"), Days.none())

    def test_no_strings(self):
        for value in NO_STRINGS:
            self.refused(BadText, {"line": 0, "word": 0}, Days.read, value)

    def test_wrong_texts(self):
        texts = [
            "", " ", "None", "none ", " every", "every none", "by", "by 7", "by 7 at", "by 7 at ", "by 1 at 0",
            "by 7 at 7", "by 7 at 1 0", "by 7 at 0 0", "by 4 at 1 3", "by 7 at 0 1 2 3 4 5 6", "by 8 at 0",
            "by 0 at 0",
            "by 07 at 0", "by 7 at 00", "by 7 at -1", "by 7  at 0", "by 7 at  0", "by 7 at 0 ", " by 7 at 0",
            "by 7 at 0\n", "7 at 0", "by 7 0", "at 7 by 0", "by x at 0", "by 7 at x", "by 7 at 5 sat",
            "BY 7 AT 0", "by -7 at 0",
            "0 from 0 by 7 at 0", "from 0 by 7 at 0", "by 7 at 0 by 7 at 0", "by " + "7" * 2900 + " at 0",
            "by 7 at " + "7" * 5000, "5", "by 7 at +0",
        ]
        for text in texts:
            self.refused(BadText, {"line": 0, "word": 0}, Days.read, text)


if __name__ == "__main__":
    unittest.main()
