"""Points [2] and [3], and the heading nodeadnight/lengths.py."""

import inspect
import itertools
import unittest

from nodeadnight.errors import BadCount, BadLengths, BadText, TooMany
from nodeadnight.lengths import Lengths
from values import FAR, NO_INTEGERS, NO_ROWS, NO_STRINGS, Checks, shuffled

FAR_ENOUGH = 400


def range_list(many):
    return list(range(many))


def parts(lengths):
    return lengths.start, lengths.low, lengths.period, lengths.rests


def told(start, low, period, rests):
    """Membership as the document tells it of the arguments, for the numbers below FAR_ENOUGH."""
    return [n in low if n < start else n % period in rests for n in range(FAR_ENOUGH)]


def marks(lengths, many=FAR_ENOUGH):
    return [n in lengths for n in range(many)]


def arguments(source):
    """Arguments of small sets, often not in the least form."""
    start, period = source.randrange(13), source.randrange(1, 13)
    fold = source.choice([k for k in range(1, period + 1) if period % k == 0])
    base = [n for n in range(fold) if source.random() < 0.5]
    rests = [n for n in range(period) if n % fold in base]
    low = [n for n in range(start) if source.random() < 0.5 or n % fold in base]
    return start, low, period, rests


SETS = [Lengths(*row) for row in shuffled(1, 40, arguments)] + [Lengths.none(), Lengths.every(), Lengths.of(0)]
MARKED = [(lengths, marks(lengths)) for lengths in SETS]


class LeastFormTest(Checks, unittest.TestCase):
    def test_period_is_least(self):
        self.same(parts(Lengths(0, (), 6, (0, 2, 4))), (0, (), 2, (0,)))
        self.same(parts(Lengths(0, [], 6, [1, 4])), (0, (), 3, (1,)))
        self.same(parts(Lengths(0, (), 400, tuple(range(400)))), (0, (), 1, (0,)))
        self.same(parts(Lengths(0, (), 400, ())), (0, (), 1, ()))
        self.same(parts(Lengths(5, (), 12, (0, 4, 6, 10))), (5, (), 6, (0, 4)))

    def test_start_is_least(self):
        self.same(parts(Lengths(9, [4, 8, 4], 4, [0])), (1, (), 4, (0,)))
        self.same(parts(Lengths(9, [0, 4, 8], 4, [0])), (0, (), 4, (0,)))
        self.same(parts(Lengths(5, [0, 1, 2, 4], 1, [0])), (4, (0, 1, 2), 1, (0,)))
        self.same(parts(Lengths(400)), (0, (), 1, ()))
        self.same(parts(Lengths(400, [2, 5])), (6, (2, 5), 1, ()))
        self.same(parts(Lengths(400, range_list(400), 1, (0,))), (0, (), 1, (0,)))

    def test_start_of_the_given_period_can_be_needed_no_more(self):
        self.same(parts(Lengths(7, (1, 3, 5), 4, (1, 3))), (0, (), 2, (1,)))
        self.same(parts(Lengths(7, (1, 2, 3, 5), 4, (1, 3))), (3, (1, 2), 2, (1,)))

    def test_order_duplicates_and_kind_of_rows_play_no_part(self):
        expected = (8, (0, 3, 6), 5, (1, 2))
        self.same(parts(Lengths(8, [6, 3, 0, 3], 5, [2, 1, 1])), expected)
        self.same(parts(Lengths(8, (6, 3, 0, 3), 5, (2, 1, 1))), expected)
        self.same(parts(Lengths(8, (0, 3, 6), 5, [1, 2])), expected)

    def test_arguments_by_name_and_left_out(self):
        self.same(parts(Lengths(rests=(0,), period=2, low=[1], start=2)), (2, (1,), 2, (0,)))
        self.same(parts(Lengths(3, (1,))), (2, (1,), 1, ()))
        self.same(parts(Lengths(2, rests=[0])), (2, (), 1, (0,)))
        self.same(parts(Lengths(0)), (0, (), 1, ()))

    def test_members_are_as_told(self):
        for row in shuffled(2, 300, arguments):
            self.assertEqual(marks(Lengths(*row)), told(*row), row)

    def test_form_is_least(self):
        for row in shuffled(3, 300, arguments):
            lengths, members = Lengths(*row), told(*row)
            period = next(p for p in range(1, 13) if members[100:300] == members[100 + p:300 + p])
            start = next(s for s in range(14) if all(members[n] == members[n + period] for n in range(s, 300)))
            rests = sorted({n % period for n in range(100, 200) if members[n]})
            low = tuple(n for n in range(start) if members[n])
            self.same(parts(lengths), (start, low, period, tuple(rests)))

    def test_later_changes_of_the_arguments_have_no_effect(self):
        low, rests = [1], [0]
        lengths = Lengths(2, low, 3, rests)
        low.append(0)
        rests.append(1)
        self.assertEqual(str(lengths), "1 from 2 by 3 at 0")
        self.assertEqual((low, rests), ([1, 0], [0, 1]))


class WrongPartsTest(Checks, unittest.TestCase):
    def bad(self, part, *arguments):
        self.refused(BadLengths, {"part": part}, Lengths, *arguments)

    def test_start(self):
        for value in NO_INTEGERS + [-1, 401, FAR, -FAR]:
            self.bad("start", value)
            self.bad("start", value, "wrong", "wrong", "wrong")

    def test_low(self):
        for value in NO_ROWS:
            self.bad("low", 5, value)
            self.bad("low", 5, value, "wrong", "wrong")
        for item in NO_INTEGERS + [-1, 5, 6, FAR, -FAR]:
            self.bad("low", 5, [item])
            self.bad("low", 5, (0, item))
            self.bad("low", 5, [4, item, 4], 0, None)
        self.bad("low", 0, [0])
        self.bad("low", 2, [2])

    def test_period(self):
        for value in NO_INTEGERS + [0, -1, 401, FAR, -FAR]:
            self.bad("period", 5, (), value)
            self.bad("period", 5, [4], value, "wrong")

    def test_rests(self):
        for value in NO_ROWS:
            self.bad("rests", 5, (), 3, value)
        for item in NO_INTEGERS + [-1, 3, 4, FAR, -FAR]:
            self.bad("rests", 5, (), 3, [item])
            self.bad("rests", 5, (), 3, (2, item))
        self.bad("rests", 0, (), 1, [1])

    def test_bounds_can_be_reached(self):
        self.assertEqual(str(Lengths(400, [0, 398], 1, [])), "0 398")
        self.assertEqual(str(Lengths(0, [], 400, [399])), "from 0 by 400 at 399")

    def test_too_many_behind_the_wrong_parts(self):
        self.bad("rests", 400, [399], 1, [1])
        self.refused(TooMany, {"what": "lengths", "most": 400}, Lengths, 400, [399])

    def test_size_of_the_least_form(self):
        self.assertEqual(str(Lengths(399, [398])), "398")
        self.assertEqual(str(Lengths(200, [199], 200, [0])), "199 from 200 by 200 at 0")
        self.assertEqual(str(Lengths(1, [0], 400, [0])), "from 0 by 400 at 0")
        self.assertEqual(str(Lengths(201, [200], 200, [0])), "from 1 by 200 at 0")
        self.refused(TooMany, {"what": "lengths", "most": 400}, Lengths, 201, [200], 200, [1])
        self.refused(TooMany, {"what": "lengths", "most": 400}, Lengths, 1, [0], 400, [1])
        self.refused(TooMany, {"what": "lengths", "most": 400}, Lengths, 400, (), 400, range_list(400))

    def test_most(self):
        self.same(Lengths.MOST, 400)
        self.same(Lengths.of(1).MOST, 400)


class StaticMethodsTest(Checks, unittest.TestCase):
    def test_of(self):
        self.same(parts(Lengths.of()), (0, (), 1, ()))
        self.same(parts(Lengths.of(0)), (1, (0,), 1, ()))
        self.same(parts(Lengths.of(5, 2, 5)), (6, (2, 5), 1, ()))
        self.same(parts(Lengths.of(398)), (399, (398,), 1, ()))
        self.refused(TooMany, {"what": "lengths", "most": 400}, Lengths.of, 399)

    def test_since(self):
        self.same(parts(Lengths.since(0)), (0, (), 1, (0,)))
        self.same(parts(Lengths.since(least=399)), (399, (), 1, (0,)))

    def test_steps(self):
        self.same(parts(Lengths.steps(0, 2)), (0, (), 2, (0,)))
        self.same(parts(Lengths.steps(7, 3)), (5, (), 3, (1,)))
        self.same(parts(Lengths.steps(by=1, first=4)), (4, (), 1, (0,)))
        self.same(parts(Lengths.steps(399, 400)), (0, (), 400, (399,)))
        self.same(parts(Lengths.steps(399, 2)), (398, (), 2, (1,)))
        for first, by in itertools.product([0, 1, 2, 9, 398, 399], [1, 2, 3, 10, 399, 400]):
            expected = [n >= first and (n - first) % by == 0 for n in range(1500)]
            self.assertEqual(marks(Lengths.steps(first, by), 1500), expected)

    def test_every_and_none(self):
        self.same(parts(Lengths.every()), (0, (), 1, (0,)))
        self.same(parts(Lengths.none()), (0, (), 1, ()))

    def test_called_off_an_object(self):
        lengths = Lengths.of(3)
        self.assertEqual(str(lengths.of(1)), "1")
        self.assertEqual(lengths.read("none"), lengths.none())

    def test_wrong_numbers(self):
        for value in NO_INTEGERS + [-1, 400, FAR, -FAR]:
            self.refused(BadCount, {"value": value}, Lengths.of, value)
            self.refused(BadCount, {"value": value}, Lengths.of, 399, value, "later")
            self.refused(BadCount, {"value": value}, Lengths.since, value)
            self.refused(BadCount, {"value": value}, Lengths.steps, value, 0)
        for value in NO_INTEGERS + [0, -1, 401, FAR, -FAR]:
            self.refused(BadCount, {"value": value}, Lengths.steps, 399, value)


class PropertiesTest(Checks, unittest.TestCase):
    def test_properties(self):
        rows = [
            (Lengths.none(), True, None, None), (Lengths.every(), False, 0, -1), (Lengths.since(3), False, 3, 2),
            (Lengths.of(2, 5), True, 2, None), (Lengths.steps(5, 3), False, 5, None), (Lengths.of(0), True, 0, None),
            (Lengths(6, [0, 3, 4], 1, [0]), False, 0, 5), (Lengths(4, [], 3, [0]), False, 6, None),
            (~Lengths.of(7), False, 0, 7), (~Lengths.of(0), False, 1, 0),
        ]
        for lengths, is_finite, least, last_gap in rows:
            with self.subTest(lengths=str(lengths)):
                self.same(lengths.is_finite, is_finite)
                self.same(lengths.least, least)
                self.same(lengths.last_gap, last_gap)

    def test_sets_cannot_be_changed_by_their_properties(self):
        lengths = Lengths.of(2)
        for name in ["start", "period", "low", "rests", "is_finite", "least", "last_gap"]:
            with self.assertRaises(AttributeError):
                setattr(lengths, name, 1)
        self.assertEqual(str(lengths), "2")


class NumbersTest(Checks, unittest.TestCase):
    def test_membership_of_far_numbers(self):
        self.same(FAR in Lengths.steps(0, 2), True)
        self.same(FAR + 1 in Lengths.steps(0, 2), False)
        self.same(FAR in Lengths.since(399), True)
        self.same(FAR in Lengths.of(0, 1), False)
        self.same(-1 in Lengths.every(), False)
        self.same(-FAR in Lengths.every(), False)

    def test_values_of_other_kinds_are_no_members(self):
        for value in NO_INTEGERS:
            self.same(value in Lengths.every(), False)
            self.same(value not in Lengths.of(0, 1), True)

    def test_at_least(self):
        for lengths in SETS:
            members = [n for n in range(200) if n in lengths]
            for n in range(60):
                expected = next((k for k in members if k >= n), None)
                self.same(lengths.at_least(n), expected)
        self.same(Lengths.steps(1, 400).at_least(n=FAR), FAR + (1 - FAR) % 400)
        self.same(Lengths.of(398).at_least(FAR), None)
        self.same(Lengths(4, [0], 7, [5]).at_least(1), 5)

    def test_below(self):
        for lengths in SETS:
            for n in range(60):
                self.same(lengths.below(n), len([k for k in range(n) if k in lengths]))
        self.same(Lengths.steps(1, 2).below(n=FAR), FAR // 2)
        self.same(Lengths(3, [0, 2], 3, [1]).below(FAR), 2 + (FAR - 4 + 2) // 3)
        self.same(Lengths.of(0, 398).below(FAR), 2)
        self.same(Lengths.every().below(FAR), FAR)

    def test_wrong_numbers(self):
        for value in NO_INTEGERS + [-1, -FAR]:
            self.refused(BadCount, {"value": value}, Lengths.every().at_least, value)
            self.refused(BadCount, {"value": value}, Lengths.none().below, value)

    def test_members(self):
        self.assertTrue(inspect.isgenerator(Lengths.every().members()))
        self.same(list(Lengths.none().members()), [])
        self.same(list(Lengths.of(398, 0, 7).members()), [0, 7, 398])
        for lengths in SETS:
            expected = [n for n in range(FAR_ENOUGH) if n in lengths][:20]
            self.same(list(itertools.islice(lengths.members(), 20)), expected)


class OperatorsTest(Checks, unittest.TestCase):
    def test_sets(self):
        # Starts below 13 and periods up to 12: no pair of these sets is too great.
        for (one, ones), (other, others) in itertools.product(MARKED, MARKED):
            pairs = list(zip(ones, others))
            self.assertEqual(marks(one & other), [a and b for a, b in pairs])
            self.assertEqual(marks(one | other), [a or b for a, b in pairs])
            self.assertEqual(marks(one - other), [a and not b for a, b in pairs])

    def test_invert(self):
        for lengths in SETS:
            self.assertEqual(marks(~lengths), [not mark for mark in marks(lengths)])
            self.assertEqual(~~lengths, lengths)
        for greatest in [Lengths.of(398), Lengths.steps(0, 400), Lengths.since(399)]:
            self.assertEqual(marks(~greatest, 1500), [not mark for mark in marks(greatest, 1500)])

    def test_results_have_the_least_form(self):
        self.same(parts(Lengths.steps(0, 4) | Lengths.steps(2, 4)), (0, (), 2, (0,)))
        self.same(parts(Lengths.steps(0, 4) & Lengths.steps(2, 4)), (0, (), 1, ()))
        self.same(parts(Lengths.since(5) | Lengths.of(4, 3)), (3, (), 1, (0,)))
        self.same(parts(Lengths.every() - Lengths.steps(1, 2)), (0, (), 2, (0,)))

    def test_in_place(self):
        first = lengths = Lengths.steps(0, 2)
        lengths &= Lengths.since(3)
        self.assertEqual(str(lengths), "from 3 by 2 at 0")
        lengths |= Lengths.of(0, 1)
        self.assertEqual(str(lengths), "0 1 from 3 by 2 at 0")
        lengths -= Lengths.of(1, 4)
        self.assertEqual(str(lengths), "0 from 5 by 2 at 0")
        self.assertEqual(str(first), "from 0 by 2 at 0")

    def check_size(self, one, other, fits):
        for work in [lambda: one & other, lambda: one | other, lambda: one - other]:
            if fits:
                work()
            else:
                self.refused(TooMany, {"what": "lengths", "most": 400}, work)

    def test_size(self):
        self.check_size(Lengths.steps(0, 16), Lengths.steps(0, 25), True)
        self.check_size(Lengths(1, [], 16, [0]), Lengths.steps(0, 25), False)
        self.check_size(Lengths.steps(0, 25), Lengths(1, [], 16, [0]), False)
        self.check_size(Lengths(20, [19], 20, [0]), Lengths.steps(0, 19), True)
        self.check_size(Lengths(21, [], 20, [0]), Lengths.steps(0, 19), False)
        self.check_size(Lengths.of(19), Lengths.steps(0, 380), True)
        self.check_size(Lengths.of(20), Lengths.steps(0, 380), False)
        self.check_size(Lengths.of(398), Lengths.steps(0, 2), False)
        self.check_size(Lengths.of(398), Lengths.since(399), True)
        self.check_size(Lengths.steps(0, 399), Lengths.steps(0, 400), False)

    def test_size_is_asked_though_the_result_is_small(self):
        self.check_size(Lengths.steps(0, 21), Lengths.steps(0, 20), False)
        self.check_size(Lengths.of(1), Lengths.steps(0, 399), False)
        self.check_size(Lengths.of(0), Lengths.steps(0, 399), True)

    def test_order(self):
        for (one, ones), (other, others) in itertools.product(MARKED, MARKED):
            pairs = list(zip(ones, others))
            within, around = all(b or not a for a, b in pairs), all(a or not b for a, b in pairs)
            self.same(one <= other, within)
            self.same(one >= other, around)
            self.same(one < other, within and not around)
            self.same(one > other, around and not within)
            self.same(one == other, within and around)
            self.same(one != other, not (within and around))

    def test_order_is_never_refused(self):
        one, other = Lengths.steps(0, 399), Lengths.steps(0, 400)
        self.same([one <= other, one < other, one >= other, one > other, one == other], [False] * 5)
        one, other = ~Lengths.steps(1, 399), ~Lengths.steps(1, 400)
        self.same([one <= other, one < other, one >= other, one > other], [False] * 4)
        one, other = Lengths.steps(3, 397), Lengths.of(398)
        self.same([one <= other, other <= one, other <= ~one, other < ~one], [False, False, True, True])
        fours = range_list(400)[::4]
        one, other = Lengths.steps(0, 396), Lengths(0, [], 400, [1, *fours])
        self.same([one <= other, one < other, other >= one, other <= one], [True, True, True, False])
        one, other = Lengths.steps(0, 390), ~Lengths.steps(1, 400)
        self.same([one <= other, other >= one, one <= ~Lengths.steps(0, 400)], [True, True, False])

    def test_order_hangs_on_far_numbers_too(self):
        # 396 * 99 is the least multiple of 396 that leaves 4 modulo 400.
        one, other = Lengths.steps(0, 396), Lengths(0, [], 400, [1, *range(0, 4), *range(8, 400, 4)])
        self.same([n for n in range(0, 40000, 396) if n not in other], [396 * 99])
        self.same([one <= other, one < other, other >= one, other > one], [False] * 4)

    def test_order_hangs_on_numbers_below_the_starts(self):
        one, other = Lengths(6, [5], 2, [0]), Lengths.steps(6, 2)
        self.same([one <= other, one > other, one >= other, one < other], [False, True, True, False])
        self.same([Lengths.of(3) <= Lengths.of(398), Lengths.of(398) < Lengths.of(3, 398)], [False, True])

    def test_equal(self):
        self.same(Lengths(9, [4, 8, 4], 4, [0]) == Lengths(1, (), 8, (4, 0)), True)
        self.same(Lengths(9, [4, 8, 4], 4, [0]) != Lengths(1, (), 8, (4, 0)), False)
        self.same(Lengths.of(1) == Lengths.of(2), False)
        self.same(Lengths.since(1) == Lengths.since(2), False)
        self.same(Lengths(1, [], 2, [0]) == Lengths(1, [], 4, [0]), False)
        for value in NO_INTEGERS + [1, FAR]:
            if not isinstance(value, Lengths):
                self.same([Lengths.of(1) == value, value == Lengths.of(1)], [False, False])
                self.same([Lengths.of(1) != value, value != Lengths.of(1)], [True, True])

    def test_bool(self):
        self.same([bool(Lengths.none()), bool(Lengths(400)), bool(Lengths.of(0))], [False, False, True])
        self.same([bool(Lengths.steps(399, 400)), bool(Lengths.of(398)), not Lengths.none()], [True, True, True])


class TextTest(Checks, unittest.TestCase):
    def test_str(self):
        self.same(str(Lengths.none()), "none")
        self.same(str(Lengths.of(10, 9, 0)), "0 9 10")
        self.same(str(Lengths(12, [11, 0], 10, [2, 9])), "0 11 from 12 by 10 at 2 9")
        self.same(str(Lengths.every()), "from 0 by 1 at 0")

    def test_read(self):
        greatest = [Lengths.of(398), Lengths.steps(399, 400), Lengths.since(399), ~Lengths.of(*range(0, 399, 2))]
        for lengths in SETS + greatest:
            self.assertEqual(Lengths.read(str(lengths)), lengths)
            self.assertEqual(str(Lengths.read(text=str(lengths))), str(lengths))

    def test_no_strings(self):
        for value in NO_STRINGS:
            self.refused(BadText, {"line": 0, "word": 0}, Lengths.read, value)

    def test_wrong_texts(self):
        texts = [
            "", " ", "None", "none ", " none", "none none", "0 none", "every", "1 0", "0 0", "01", "-1", "+1", "-0",
            "1 ", " 1", "1  2", "1\n", "1\n2", "1,2", "399", "400", "1" * 3000, "1" * 5000, "1.0", "1_0", "0x1",
            "from", "from 0", "from 0 by 1", "from 0 by 1 at", "0 from 1 by 1 at", "from 0 by 1 at 0 0",
            "from 0 by 2 at 1 0", "from 0 by 2 at 0 1", "from 0 by 1 at 1", "from 0 by 0 at 0", "from 1 by 1 at 0 ",
            "from 0 by 4 at 0 2", "0 2 from 3 by 1 at 0", "2 from 2 by 1 at 0", "from 5 by 2 at", "5 from 5 by 2 at 0",
            "1 from 3 by 2 at 0 from 3 by 2 at 0", "from 3 at 0 by 2", "from 3 by 2 and 0", "by 2 at 0", "3 by 2 at 0",
            "from 1 by 400 at 1", "from 0 by 401 at 0", "from 401 by 1 at 0", "from 03 by 1 at 0", "from 3 by 01 at 0",
            "from 3 by 1 at 00", "from 3 by 1 at -0", "from  3 by 1 at 0", "from x by 1 at 0", "from 3 by x at 0",
            "from 3 by 1 at x", "x from 3 by 1 at 0", "FROM 3 BY 1 AT 0", "from 200 by 2 at 0 from 2",
            "\u0661", "\u00b2", "from 3 by 1 at \u0660",
        ]
        for text in texts:
            self.refused(BadText, {"line": 0, "word": 0}, Lengths.read, text)


if __name__ == "__main__":
    unittest.main()
