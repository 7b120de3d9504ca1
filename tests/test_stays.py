"""Points [2] and [4], and the heading nodeadnight/stays.py."""

import itertools
import unittest

from nodeadnight.errors import BadStay, BadText
from nodeadnight.stays import Stay
from values import FAR, NO_INTEGERS, NO_STRINGS, Checks

LAST = 10 ** 12 - 1
SMALL = [Stay(first, after) for first in range(-4, 4) for after in range(first + 1, 6)]


class StayTest(Checks, unittest.TestCase):
    def test_attributes(self):
        self.same((Stay(3, 10).first, Stay(3, 10).after), (3, 10))
        self.same((Stay(after=0, first=-1).first, Stay(-1, 0).after), (-1, 0))

    def test_nights(self):
        for stay in SMALL + [Stay(LAST - 400, LAST), Stay(-LAST, -LAST + 400), Stay(LAST - 1, LAST)]:
            nights = list(range(stay.first, stay.after))
            self.same(len(stay), len(nights))
            self.same(list(stay), nights)
            self.same([night for night in stay], nights)
            self.same(bool(stay), True)
            for n in range(stay.first - 2, stay.after + 3):
                self.same(n in stay, n in nights)

    def test_iterating_twice(self):
        stay = Stay(3, 5)
        self.assertEqual([(one, other) for one in stay for other in stay], [(3, 3), (3, 4), (4, 3), (4, 4)])

    def test_values_of_other_kinds_are_no_nights(self):
        for value in NO_INTEGERS + [FAR, -FAR, Stay(0, 1)]:
            self.same(value in Stay(-5, 5), False)

    def test_bounds_can_be_reached(self):
        for first, after in [(LAST - 400, LAST), (-LAST, 400 - LAST), (0, 400), (-200, 200), (LAST - 1, LAST)]:
            self.same((Stay(first, after).first, Stay(first, after).after), (first, after))

    def test_most(self):
        self.same((Stay.MOST, Stay(0, 1).MOST), (400, 400))

    def test_wrong_first(self):
        for value in NO_INTEGERS + [LAST + 1, -LAST - 1, FAR, -FAR]:
            self.refused(BadStay, {"part": "first"}, Stay, value, 1)
            self.refused(BadStay, {"part": "first"}, Stay, value, None)
        self.refused(BadStay, {"part": "first"}, Stay, LAST + 1, LAST + 2)
        self.refused(BadStay, {"part": "first"}, Stay, -LAST - 1, -LAST)

    def test_wrong_after(self):
        for value in NO_INTEGERS + [0, -1, 401, FAR, -FAR]:
            self.refused(BadStay, {"part": "after"}, Stay, 0, value)
        self.refused(BadStay, {"part": "after"}, Stay, LAST, LAST + 1)
        self.refused(BadStay, {"part": "after"}, Stay, LAST - 1, LAST + 1)
        self.refused(BadStay, {"part": "after"}, Stay, LAST, LAST)
        self.refused(BadStay, {"part": "after"}, Stay, 5, 406)
        self.refused(BadStay, {"part": "after"}, Stay, -5, -5)
        self.refused(BadStay, {"part": "after"}, Stay, 5, 3)

    def test_order_of_document_is_that_of_first_day_then_nights(self):
        by_nights = sorted(SMALL, key=lambda stay: (stay.first, len(stay)))
        self.assertEqual([str(stay) for stay in by_nights], [str(stay) for stay in SMALL])


class OperatorsTest(Checks, unittest.TestCase):
    def test_moved(self):
        for stay in SMALL:
            for k in [-9, -1, 0, 1, 5, LAST - 400, 400 - LAST]:
                later, earlier = stay >> k, stay << k
                self.same((later.first, later.after), (stay.first + k, stay.after + k))
                self.same((earlier.first, earlier.after), (stay.first - k, stay.after - k))

    def test_moved_too_far(self):
        stay = Stay(-3, 4)
        self.same(str(stay >> LAST - 4), f"{LAST - 7}+7")
        self.refused(BadStay, {"part": "after"}, lambda: stay >> LAST - 3)
        self.refused(BadStay, {"part": "after"}, lambda: stay >> LAST + 3)
        self.refused(BadStay, {"part": "first"}, lambda: stay >> LAST + 4)
        self.same(str(stay << LAST - 3), f"{-LAST}+7")
        self.refused(BadStay, {"part": "first"}, lambda: stay << LAST - 2)
        self.refused(BadStay, {"part": "after"}, lambda: stay << 3 - LAST)
        self.refused(BadStay, {"part": "first"}, lambda: stay >> FAR)
        self.refused(BadStay, {"part": "first"}, lambda: stay << FAR)

    def test_in_place(self):
        first = stay = Stay(3, 5)
        stay >>= 4
        self.same(str(stay), "7+2")
        stay <<= 10
        self.same(str(stay), "-3+2")
        self.same(str(first), "3+2")

    def test_a_refused_move_in_place_changes_nothing(self):
        stay = Stay(3, 5)
        with self.assertRaises(BadStay):
            stay >>= LAST
        self.same(str(stay), "3+2")

    def test_parted(self):
        for stay in SMALL:
            for day in range(stay.first + 1, stay.after):
                ahead, behind = stay // day
                self.assertIs(type(stay // day), tuple)
                self.same((ahead.first, ahead.after, behind.first, behind.after), (stay.first, day, day, stay.after))

    def test_parted_on_wrong_days(self):
        for value in NO_INTEGERS + [-3, -4, 4, 5, FAR, -FAR]:
            self.refused(BadStay, {"part": "day"}, lambda: Stay(-3, 4) // value)
        self.refused(BadStay, {"part": "day"}, lambda: Stay(0, 1) // 0)
        self.refused(BadStay, {"part": "day"}, lambda: Stay(0, 1) // 1)

    def test_meets(self):
        for one, other in itertools.product(SMALL, SMALL):
            common = set(range(one.first, one.after)) & set(range(other.first, other.after))
            self.same(one.meets(other=other), len(common) > 0)

    def test_equal(self):
        for one, other in itertools.product(SMALL, SMALL):
            equal = (one.first, one.after) == (other.first, other.after)
            self.same([one == other, one != other], [equal, not equal])
        self.same([Stay(3, 5) == Stay(3, 5), Stay(3, 5) != Stay(3, 5)], [True, False])
        for value in NO_INTEGERS + [3, FAR, (3, 5), [3, 4], "3+2"]:
            if not isinstance(value, Stay):
                self.same([Stay(3, 5) == value, value == Stay(3, 5)], [False, False])
                self.same([Stay(3, 5) != value, value != Stay(3, 5)], [True, True])


class TextTest(Checks, unittest.TestCase):
    def test_str_and_read(self):
        rows = [
            ("3+4", 3, 7), ("-2+1", -2, -1), ("0+400", 0, 400), ("-10+10", -10, 0),
            (f"{LAST - 1}+1", LAST - 1, LAST), (f"-{LAST}+400", -LAST, 400 - LAST),
        ]
        for text, first, after in rows:
            self.same(str(Stay(first, after)), text)
            self.assertEqual(Stay.read(text=text), Stay(first, after))
        for stay in SMALL:
            self.assertEqual(stay.read(str(stay)), stay)

    def test_no_strings(self):
        for value in NO_STRINGS:
            self.refused(BadText, {"line": 0, "word": 0}, Stay.read, value)

    def test_wrong_texts(self):
        texts = [
            "", " ", "+", "3", "3+", "+3", "3+07", "03+4", "-0+1", "-01+1", " 3+4", "3+4 ", "3 +4", "3+ 4",
            "3 4", "3-4", "3+4+5", "3++4", "++", "3+-4", "-+4", "--3+4", "- 3+4", "+3+4", "3+0", "3+401",
            "3+-1", "3+4\n", "\n3+4",
            "x+4", "3+x", "3.0+4", "1_0+4", "3+4.0", "0x3+4", f"{LAST}+1", f"{LAST - 1}+2", f"{LAST + 1}+1",
            f"-{LAST + 1}+1", "3" * 2990 + "+1", "1+" + "3" * 2990, "3" * 5000 + "+1",
            "none", "None+None", "True+1", "\u0663+4", "3+\u00b2",
        ]
        for text in texts:
            self.refused(BadText, {"line": 0, "word": 0}, Stay.read, text)


if __name__ == "__main__":
    unittest.main()
