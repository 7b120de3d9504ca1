"""Points [2] and [4], and the heading nodeadnight/rules.py."""

import itertools
import unittest

from nodeadnight.days import Days
from nodeadnight.errors import BadRule, BadStay, TooMany
from nodeadnight.lengths import Lengths
from nodeadnight.rules import (
    Both, Comes, DayRule, Either, Goes, Holds, Lasts, LengthRule, NightRule, Not, Rule, Within,
)
from nodeadnight.stays import Stay
from values import LAST, Checks, none_of, shuffled

BASES = {
    Comes: (DayRule,), Goes: (DayRule,), Holds: (DayRule, NightRule), Within: (DayRule, NightRule),
    Lasts: (LengthRule,), Both: (Rule,), Either: (Rule,), Not: (Rule,),
}

METHODS = ["size", "__call__", "__and__", "__or__", "__sub__", "__invert__", "__eq__", "__str__"]

SETS = [
    Days.none(), Days.every(), Days.on(2, 1), Days.on(3, 0, 1), Days.on(5, 4), Days.on(6, 0, 4), Days.on(7, 5, 6),
    ~Days.on(7, 6),
]

NUMBERS = [
    Lengths.none(), Lengths.every(), Lengths.of(1), Lengths.of(0, 2, 5), Lengths.since(3), Lengths.steps(2, 7),
    Lengths(9, [4], 5, [0, 3]), Lengths.steps(0, 400), Lengths.since(399), Lengths.of(398),
]

STAYS = [Stay(first, first + n) for first in range(-9, 9) for n in [1, 2, 3, 4, 5, 6, 7, 8, 14, 399, 400]] + [
    Stay(first, first + n) for first in [-LAST, 400 - LAST, LAST - 400, 10 ** 11] for n in [1, 2, 6, 7, 400]
]

LEAVES = {
    "comes": (Comes, SETS, lambda days, stay: stay.first in days),
    "goes": (Goes, SETS, lambda days, stay: stay.after in days),
    "holds": (Holds, SETS, lambda days, stay: any(night in days for night in stay)),
    "within": (Within, SETS, lambda days, stay: all(night in days for night in stay)),
    "lasts": (Lasts, NUMBERS, lambda lengths, stay: len(list(stay)) in lengths),
}

SHORT = Lasts(Lengths.of(1))


def leaf(source):
    kind, sets, told = LEAVES[source.choice(list(LEAVES))]
    of = source.choice(sets)
    return kind(of), lambda stay: told(of, stay)


def nested(source, deep=3):
    """A rule, with a function that tells by itself whether a stay is let."""
    word = source.choice(["and", "or", "not", "leaf"]) if deep > 0 else "leaf"
    if word == "leaf":
        return leaf(source)
    one, lets = nested(source, deep - 1)
    if word == "not":
        return Not(one), lambda stay: not lets(stay)
    other, lets_too = nested(source, deep - 1)
    if word == "and":
        return Both(one, other), lambda stay: lets(stay) and lets_too(stay)
    return Either(one, other), lambda stay: lets(stay) or lets_too(stay)


def chain(size):
    """A rule with so many rules in it."""
    rule = Comes(Days.every())
    for _ in range(size - 1):
        rule = Not(rule)
    return rule


class LetsTest(Checks, unittest.TestCase):
    def test_leaves(self):
        for kind, sets, told in LEAVES.values():
            for of in sets:
                rule = kind(of)
                for stay in STAYS:
                    self.same(rule(stay), told(of, stay))

    def test_nights_count_as_their_days(self):
        self.same([Comes(Days.on(7, 3))(Stay(3, 4)), Goes(Days.on(7, 3))(Stay(3, 4))], [True, False])
        self.same([Holds(Days.on(7, 4))(Stay(3, 4)), Holds(Days.on(7, 3))(Stay(3, 4))], [False, True])
        self.same([Within(Days.on(7, 3))(Stay(3, 4)), Within(Days.on(7, 3))(Stay(3, 5))], [True, False])
        self.same([Within(~Days.on(7, 2))(Stay(3, 9)), Within(~Days.on(7, 2))(Stay(3, 10))], [True, False])

    def test_nested(self):
        for rule, lets in shuffled(41, 120, nested):
            for stay in STAYS[::3]:
                self.same(rule(stay=stay), lets(stay))

    def test_wrong_stays(self):
        for rule in [Comes(Days.none()), Goes(Days.every()), Holds(Days.every()), Within(Days.every()), SHORT,
                     SHORT & SHORT, SHORT | SHORT, ~SHORT]:
            for value in none_of(Stay):
                self.refused(BadStay, {"part": "stay"}, rule, value)


class ClassesTest(Checks, unittest.TestCase):
    def test_bases(self):
        groups = [Rule, DayRule, NightRule, LengthRule]
        for kind, bases in BASES.items():
            for group in groups:
                self.same(issubclass(kind, group), group is Rule or group in bases)
            self.assertFalse(any(issubclass(kind, other) for other in BASES if other is not kind))
        for group, other in itertools.permutations(groups, 2):
            self.same(issubclass(group, other), other is Rule)

    def test_attributes(self):
        for kind in [Comes, Goes, Holds, Within]:
            for days in SETS:
                self.assertIs(kind(days=days).days, days)
        for lengths in NUMBERS:
            self.assertIs(Lasts(lengths=lengths).lengths, lengths)
        one, other = Comes(SETS[2]), SHORT
        for kind in [Both, Either]:
            rule = kind(other=other, one=one)
            self.assertIs(rule.one, one)
            self.assertIs(rule.other, other)
        self.assertIs(Not(rule=one).rule, one)

    def test_size(self):
        one, other = Comes(SETS[2]), SHORT
        self.same([kind(of).size for kind, sets, _ in LEAVES.values() for of in sets[:2]], [1] * 10)
        self.same([one.size, Both(one, other).size, Either(one, Not(other)).size, chain(30).size], [1, 3, 4, 30])
        with self.assertRaises(AttributeError):
            one.size = 2

    def test_most(self):
        self.same([Rule.MOST, Comes.MOST, SHORT.MOST, Not.MOST], [30, 30, 30, 30])

    def test_own_methods(self):
        for kind in BASES:
            self.defines(kind, ["__init__", *METHODS])
        self.defines(Rule, METHODS)


class SignsTest(Checks, unittest.TestCase):
    def test_classes_and_parts(self):
        one, other = Comes(SETS[2]), SHORT
        for rule, kind in [(one & other, Both), (one | other, Either)]:
            self.assertIs(type(rule), kind)
            self.assertIs(rule.one, one)
            self.assertIs(rule.other, other)
        self.assertIs(type(~one), Not)
        self.assertIs((~one).rule, one)
        self.assertEqual(one - other, Both(one, Not(other)))

    def test_each_class_has_the_signs(self):
        for one in [Comes(SETS[2]), Goes(SETS[3]), Holds(SETS[4]), Within(SETS[5]), SHORT, SHORT & SHORT, SHORT | SHORT,
                    ~SHORT]:
            other = Lasts(Lengths.since(2))
            self.assertEqual(one & other, Both(one, other))
            self.assertEqual(one | other, Either(one, other))
            self.assertEqual(one - other, Both(one, Not(other)))
            self.assertEqual(~one, one.rule if type(one) is Not else Not(one))

    def test_twice_not(self):
        rule = SHORT
        self.assertIs(~~rule, rule)
        self.assertEqual(~Not(Not(rule)), Not(rule))
        self.assertNotEqual(Not(Not(rule)), rule)
        self.same(Not(Not(rule)).size, 3)
        self.assertEqual(rule - ~rule, Both(rule, rule))

    def test_in_place(self):
        first = rule = Comes(SETS[2])
        rule &= SHORT
        self.assertEqual(rule, Both(first, SHORT))
        rule |= first
        self.assertEqual(rule, Either(Both(first, SHORT), first))
        rule -= SHORT
        self.assertEqual(rule, Both(Either(Both(first, SHORT), first), Not(SHORT)))
        self.assertEqual((str(first), str(SHORT)), ("comes by 2 at 1", "lasts 1"))

    def test_refused_in_place(self):
        rule = great = chain(29)
        with self.assertRaises(TooMany):
            rule &= SHORT
        self.assertIs(rule, great)


class EqualTest(Checks, unittest.TestCase):
    def test_equal(self):
        rules = [kind(of) for kind, sets, _ in LEAVES.values() for of in sets]
        rules += [Both(rules[1], rules[2]), Both(rules[2], rules[1]), Either(rules[1], rules[2]), Not(rules[1]),
                  Not(Not(rules[1])), Both(rules[1], rules[1]), Not(Both(rules[1], rules[2])),
                  Either(rules[1], rules[1]), Either(rules[2], rules[1]), Either(rules[2], rules[2])]
        for (i, one), (k, other) in itertools.product(enumerate(rules), enumerate(rules)):
            self.same([one == other, one != other], [i == k, i != k])

    def test_equal_by_sets(self):
        self.same(Comes(Days(4, [1, 3])) == Comes(Days.on(2, 1)), True)
        self.same(Lasts(Lengths(9, [4, 8, 4], 4, [0])) == Lasts(Lengths(1, [], 4, [0])), True)
        self.same(Comes(Days.on(2, 1)) == Goes(Days.on(2, 1)), False)

    def test_same_stays_are_no_equal_rules(self):
        self.same(Both(SHORT, SHORT) == SHORT, False)
        self.same(Holds(Days.every()) == Within(Days.every()), False)

    def test_other_values(self):
        for rule in [SHORT, Comes(Days.on(7, 1)), SHORT & SHORT, SHORT | SHORT, ~SHORT]:
            self.alone(rule, none_of(Rule) + ["lasts 1", str(rule)])

    def test_deep(self):
        self.same([chain(30) == chain(30), chain(30) == chain(28), chain(30) != chain(30)], [True, False, False])


class TextTest(Checks, unittest.TestCase):
    def test_leaves(self):
        for word, (kind, sets, _) in LEAVES.items():
            for of in sets:
                self.same(str(kind(of)), f"{word} {of}")

    def test_sets_that_were_not_told_in_their_least_form(self):
        late = Either(Lasts(Lengths(9, [4, 8, 4], 4, [0])), Goes(Days(6, list(range(6)))))
        rule = Not(Both(Comes(Days(4, [3, 1])), late))
        self.same(str(rule), "not and comes by 2 at 1 or lasts from 1 by 4 at 0 goes every")

    def test_deep(self):
        one, other = Holds(Days.on(7, 6)), Within(~Days.on(3, 1))
        self.same(str(~(one & SHORT) | (other - one)), "or not and holds by 7 at 6 lasts 1 and within by 3 at 0 2 not "
                  "holds by 7 at 6")
        self.same(str(chain(30)), "not " * 29 + "comes every")


class WrongPartsTest(Checks, unittest.TestCase):
    def test_sets(self):
        for kind in [Comes, Goes, Holds, Within]:
            for value in none_of(Days):
                self.refused(BadRule, {"part": "days"}, kind, value)
        for value in none_of(Lengths):
            self.refused(BadRule, {"part": "lengths"}, Lasts, value)

    def test_rules(self):
        for value in none_of(Rule):
            for kind in [Both, Either]:
                self.refused(BadRule, {"part": "one"}, kind, value, SHORT)
                self.refused(BadRule, {"part": "one"}, kind, value, value)
                self.refused(BadRule, {"part": "other"}, kind, SHORT, value)
                self.refused(BadRule, {"part": "other"}, kind, chain(30), value)
            self.refused(BadRule, {"part": "rule"}, Not, value)

    def test_too_many(self):
        many = {"what": "rules", "most": 30}
        for kind in [Both, Either]:
            self.same(kind(chain(14), chain(15)).size, 30)
            self.same(kind(chain(1), chain(28)).size, 30)
            self.refused(TooMany, many, kind, chain(15), chain(15))
            self.refused(TooMany, many, kind, chain(29), chain(1))
            self.refused(TooMany, many, kind, chain(30), chain(30))
        self.same(Not(chain(29)).size, 30)
        self.refused(TooMany, many, Not, chain(30))

    def test_too_many_by_signs(self):
        many = {"what": "rules", "most": 30}
        full = Both(chain(14), chain(15))
        self.refused(TooMany, many, lambda: full & SHORT)
        self.refused(TooMany, many, lambda: full | SHORT)
        self.refused(TooMany, many, lambda: ~full)
        self.same((~chain(30)).size, 29)
        self.same([(Comes(Days.none()) - chain(28)).size, (SHORT & chain(28)).size], [29, 30])

    def test_minus_counts_the_not(self):
        many = {"what": "rules", "most": 30}
        wide = Both(chain(12), chain(14))
        self.same([wide.size, (SHORT - wide).size], [27, 30])
        wider = Both(chain(13), chain(14))
        self.refused(TooMany, many, lambda: SHORT - wider)
        self.same((SHORT & wider).size, 30)
        self.same((SHORT - Not(wider)).size, 30)


if __name__ == "__main__":
    unittest.main()
