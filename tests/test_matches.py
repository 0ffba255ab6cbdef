"""Matches against all parts of a line that a pattern describes (16, and j of 3)."""

import itertools
import random
import time
import unittest

from surelyhas.errors import BadArgument, BadDepth, BadLine
from surelyhas.matches import first_match, matches
from surelyhas.patterns import Pattern
from tests.shapes import either, is_word, lines_over, mixed_shapes, place, row, signed, small_shapes, text_of
from tests.wrong import NO_LINE, NO_PATTERN, check_wrong

BORDERS = list(itertools.product((False, True), repeat=2))
NO_START = [(value, BadDepth, "value", value)
            for value in (True, False, -1, -10 ** 30, None, "", "1", "a", b"1", 1.0, [], [1], (1,), {}, object())]


def brute(shape, from_start, to_end, line):
    """All places of a line between which a word of a shape stands."""
    starts = [0] if from_start else range(len(line) + 1)
    return [(start, end) for start in starts for end in range(start, len(line) + 1)
            if (end == len(line) or not to_end) and is_word(shape, line[start:end])]


def first_of(told, start):
    """The first match with its start at a place or behind, of all matches."""
    begins = [pair for pair in told if pair[0] >= start]
    return max((pair for pair in begins if pair[0] == begins[0][0]), default=None)


def pattern_of(shape, from_start, to_end):
    return Pattern("^" * from_start + text_of(shape) + "$" * to_end)


class MatchTest(unittest.TestCase):
    def check(self, shape, lines, borders=BORDERS):
        for from_start, to_end in borders:
            pattern = pattern_of(shape, from_start, to_end)
            for line in lines:
                told = list(matches(pattern, line))
                self.assertEqual(told, brute(shape, from_start, to_end, line), (pattern.text, line))
                self.assertEqual(told, sorted(set(told)))
                self.assertIs(pattern.has(line), len(told) > 0)
                for start in range(len(line) + 3):
                    self.assertEqual(first_match(pattern, line, start), first_of(told, start), (pattern.text, line, start))
                self.assertEqual(first_match(pattern, line), first_of(told, 0))

    def test_small_patterns(self):
        lines = lines_over("ab", 3) + ["abab", "aabb", "cab", "bca", "cc", "acbca"]
        for shape in small_shapes()[::3]:
            self.check(shape, lines)

    def test_mixed_patterns(self):
        chooser = random.Random(16)
        lines = lines_over("abc", 5)
        for shape in mixed_shapes(150, 12):
            self.check(shape, chooser.sample(lines, 8), chooser.sample(BORDERS, 2))

    def test_long_words(self):
        chooser = random.Random(26)
        for shape in mixed_shapes(40, 12):
            line = "".join(chooser.choice("aabbc") for _ in range(chooser.randrange(8, 15)))
            self.check(shape, [line], [chooser.choice(BORDERS)])

    def test_each_part_is_told_once(self):
        # The same words in several ways, and items that repeat the empty word.
        a, b = place("a"), place("b")
        for shape in (either(row(a), row(a)), row(signed(a, "**")), row(signed(a, "?*+")), either(row(), row(), row(a)),
                      row(signed(a, "*"), signed(a, "*"), signed(b, "?"))):
            self.check(shape, lines_over("ab", 4))

    def test_examples(self):
        self.assertEqual(list(matches(Pattern("a+"), "aab")), [(0, 1), (0, 2), (1, 2)])
        self.assertEqual(first_match(Pattern("a+"), "baab"), (1, 3))
        self.assertEqual(list(matches(Pattern(""), "ab")), [(0, 0), (1, 1), (2, 2)])
        self.assertEqual(list(matches(Pattern("^"), "ab")), [(0, 0)])
        self.assertEqual(list(matches(Pattern("$"), "ab")), [(2, 2)])
        self.assertEqual(list(matches(Pattern("^$"), "ab")), [])
        self.assertEqual(list(matches(Pattern("^$"), "")), [(0, 0)])
        self.assertEqual(list(matches(Pattern("a|ab|abc"), "abc")), [(0, 1), (0, 2), (0, 3)])
        self.assertEqual(first_match(Pattern("a|ab|abc"), "xabcab"), (1, 4))
        self.assertEqual(first_match(Pattern("^a*"), "aab", 1), None)
        self.assertEqual(first_match(Pattern("a*$"), "aab", 1), (3, 3))

    def test_kinds_of_what_is_told(self):
        told = list(matches(Pattern("a?"), "ab"))
        for pair in [*told, first_match(Pattern("a?"), "ab")]:
            self.assertEqual([type(pair), *map(type, pair)], [tuple, int, int])
        self.assertEqual(first_match(Pattern("a"), "b"), None)

    def test_starts(self):
        pattern = Pattern("ab?")
        self.assertEqual([first_match(pattern, "abba", start) for start in range(7)], [(0, 2)] + [(3, 4)] * 3 + [None] * 3)
        self.assertEqual(first_match(Pattern("b*"), "abba", 4), (4, 4))
        self.assertEqual(first_match(Pattern("b*"), "abba", 5), None)
        self.assertEqual(first_match(Pattern("b*"), "abba", 10 ** 40), None)
        self.assertEqual(first_match(Pattern(""), "", 0), (0, 0))
        self.assertEqual(first_match(Pattern(""), "", 1), None)


class GeneratorTest(unittest.TestCase):
    def test_going_on_step_by_step(self):
        pattern = Pattern("a+")
        one, two = matches(pattern, "aab"), matches(pattern, "aab")
        self.assertEqual([next(one), next(two), next(one), next(one), next(two)], [(0, 1), (0, 1), (0, 2), (1, 2), (0, 2)])
        self.assertEqual((list(one), list(two)), ([], [(1, 2)]))

    def test_errors_at_the_first_step(self):
        for pattern, line, error in ((None, "a", BadArgument), (Pattern("a"), "A", BadLine), ("a", None, BadArgument)):
            told = matches(pattern, line)
            self.assertIs(iter(told), told)
            self.assertRaises(error, next, told)
            self.assertEqual(list(told), [])


class LongLineTest(unittest.TestCase):
    def test_long_lines(self):
        start = time.perf_counter()
        for text, line, first in (("a.*b", "a" * 50000, None), ("a.*b", "a" * 40000 + "b" + "a" * 9999, (0, 40001)),
                                  (".*", "ab" * 25000, (0, 50000)), ("(ab|ba)*c", "ab" * 24999 + "c", (0, 49999)),
                                  ("a(b|c)*d$", "abc" * 16000, None), ("b+$", "a" * 49990 + "b" * 10, (49990, 50000)),
                                  ("^[ab]+c", "ab" * 20000 + "c", (0, 40001)), ("^b", "a" * 50000, None)):
            self.assertEqual(first_match(Pattern(text), line), first)
            self.assertIs(Pattern(text).has(line), first is not None)
        self.assertEqual(list(matches(Pattern("ab"), "ab" * 20000)), [(at, at + 2) for at in range(0, 40000, 2)])
        self.assertEqual(first_match(Pattern("ba"), "ab" * 20000, 30000), (30001, 30003))
        self.assertEqual(next(matches(Pattern("a.*"), "b" + "a" * 40000)), (1, 2))
        self.assertLess(time.perf_counter() - start, 30)


class ArgumentTest(unittest.TestCase):
    def test_wrong_arguments(self):
        pattern, line, start = (Pattern("a"), NO_PATTERN), ("aba", NO_LINE), (1, NO_START)
        check_wrong(self, lambda *told: next(matches(*told)), [pattern, line])
        check_wrong(self, lambda *told: list(matches(*told)), [pattern, line])
        check_wrong(self, first_match, [pattern, line])
        check_wrong(self, first_match, [pattern, line, start])

    def test_no_error_at_the_call(self):
        for pattern, _, _, _ in NO_PATTERN:
            for line, _, _, _ in NO_LINE[:3]:
                matches(pattern, line)


if __name__ == "__main__":
    unittest.main()
