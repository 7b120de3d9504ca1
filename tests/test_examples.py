"""Every example of the document, word for word."""

import unittest

EXAMPLES = {
    "lengths": """
>>> from nodeadnight.lengths import Lengths
>>> long, even = Lengths.since(3), Lengths.steps(0, 2)
>>> [str(long), str(even), str(long & even), str(long | Lengths.of(0, 1)), str(~even), str(~long), str(Lengths(9, [4, 8, 4], 4, [0]))]
['from 3 by 1 at 0', 'from 0 by 2 at 0', 'from 3 by 2 at 0', '0 1 from 3 by 1 at 0', 'from 0 by 2 at 1', '0 1 2', 'from 1 by 4 at 0']
>>> [10 ** 50 in even, long.last_gap, even.last_gap, Lengths.every().last_gap, long.at_least(0), Lengths.of(2, 5).at_least(6), even.below(7), even <= long, long.is_finite]
[True, 2, None, -1, 3, None, 4, False, False]
>>> Lengths.read("0 2 from 3 by 1 at 0")
raises BadText(0, 0)
>>> Lengths(2, [2])
raises BadLengths('low')
""",
    "days": """
>>> from nodeadnight.days import Days
>>> fri, sat = Days.on(7, 5), Days.on(7, 6)
>>> [str(fri | sat), fri >> 1 == sat, str(~Days.on(2, 0)), -2 in fri, sat.following(7), str(Days(4, [1, 3])), str(Days.on(2, 0) | Days.on(2, 1))]
['by 7 at 5 6', True, 'by 2 at 1', True, 13, 'by 2 at 1', 'every']
>>> Days.on(3, 0) & Days.on(7, 0)
raises TooMany('days', 7)
""",
    "stays": """
>>> from nodeadnight.stays import Stay
>>> week = Stay(3, 10)
>>> [str(week), len(week), list(Stay(3, 6)), 9 in week, 10 in week, [str(part) for part in week // 5], str(week << 5), week.meets(Stay(10, 12)), Stay.read("3+7") == week]
['3+7', 7, [3, 4, 5], True, False, ['3+2', '5+5'], '-2+7', False, True]
>>> week // 3
raises BadStay('day')
>>> Stay.read("3+07")
raises BadText(0, 0)
""",
}


def pairs(text):
    """The lines behind the prompts, each with what is told below it."""
    found = []
    for line in text.strip().split("\n"):
        if line.startswith(">>> "):
            found.append([line[4:], ""])
        else:
            found[-1][1] += line
    return found


def outcome(line, names):
    """What a line shows in the words of the document: a value, an error, or nothing."""
    try:
        code = compile(line, "example", "eval")
    except SyntaxError:
        exec(line, names)
        return ""
    try:
        return repr(eval(code, names))
    except ValueError as error:
        return f"raises {error!r}"


class ExamplesTest(unittest.TestCase):
    def test_examples(self):
        names = {}
        for module in EXAMPLES:
            for line, told in pairs(EXAMPLES[module]):
                with self.subTest(module=module, line=line):
                    self.assertEqual(outcome(line, names), told)


if __name__ == "__main__":
    unittest.main()
