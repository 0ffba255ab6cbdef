"""The states of a pattern, and which lines have it (5, 6)."""

import itertools
import string
import unittest

from surelyhas.errors import BadLine, BadPieces
from surelyhas.patterns import Pattern
from tests.shapes import has, is_word, lines_over, marked_words, mixed_shapes, places_of, small_shapes, text_of

NO_LINES = (None, 0, 1, True, False, 1.5, b"", b"a", [], ["a"], (), ("a",), {}, {"a": 1}, object(), "A", "a b", "ab1",
            "a\n", " ", "\u00e4", "a-")
NO_SIGNS = (*NO_LINES, "", "ab", "aa", "abc", "a ", "B", "1", ".", "^", "$", "\n", "\u00df")
ENDS = ((False, False), (True, False), (False, True), (True, True))


def whole_text(shape, from_start, to_end):
    return "^" * from_start + text_of(shape) + "$" * to_end


def all_states(pattern):
    """Each ascending tuple of integers from 0 to the number of positions."""
    places = range(pattern.many + 1)
    return [state for many in range(pattern.many + 2) for state in itertools.combinations(places, many)]


def no_states(many):
    """Values that are no states of a pattern with so many positions, and almost are some."""
    return [None, 0, 1, True, "", "0", "01", b"", [], [0], [0, 1], {}, {0: 1}, {0}, range(2), object(), 1.0,
            (True,), (False,), (0, True), (False, 1), (0.0,), (0, "1"), (None,), ((0,),), (0, (1,)), (0, [1]),
            (-1,), (-1, 0), (many + 1,), (0, many + 1), (0, 10 ** 30), (0, 0), (1, 1), (0, 1, 1), (1, 0), (0, 2, 1)]


class StepTest(unittest.TestCase):
    def expected(self, pattern, state, sign):
        """The state behind one more letter, word by word as point 6 tells it."""
        told = []
        for position in range(1, pattern.many + 1):
            begins = 0 in state and position in pattern.first
            goes_on = any(position in pattern.follows(before) for before in state if before != 0)
            if sign in pattern.letters(position) and (begins or goes_on):
                told.append(position)
        return tuple(told) if pattern.from_start else (0, *told)

    def test_some_steps(self):
        one = Pattern("ab")
        told = {((0,), "a"): (0, 1), ((0,), "b"): (0,), ((0, 1), "b"): (0, 2), ((0, 1), "a"): (0, 1), ((1,), "b"): (0, 2),
                ((), "a"): (0,), ((2,), "a"): (0,), ((1,), "a"): (0,), ((0, 1, 2), "c"): (0,), ((0, 2), "a"): (0, 1)}
        for (state, sign), behind in told.items():
            self.assertEqual(one.step(state, sign), behind)

    def test_some_steps_from_the_start(self):
        one = Pattern("^ab*")
        told = {((0,), "a"): (1,), ((0,), "b"): (), ((1,), "b"): (2,), ((2,), "b"): (2,), ((1,), "a"): (), ((), "a"): (),
                ((0, 1), "b"): (2,), ((0, 1, 2), "a"): (1,), ((1, 2), "c"): ()}
        for (state, sign), behind in told.items():
            self.assertEqual(one.step(state, sign), behind)

    def test_points_and_classes(self):
        one = Pattern(".[bd]")
        for sign in string.ascii_lowercase:
            self.assertEqual(one.step((0, 1), sign), (0, 1, 2) if sign in "bd" else (0, 1))

    def test_every_state(self):
        texts = ("", "^", "a", "^a", "ab", "a|b", "^a|b$", "a*b?", "(a|b)*c", "^(ab|c)+$", "[ab]+.", "a(b|[cd])*$",
                 "((a+)?b)*", "^a?b?c?a?", "(a|)+(b|)+$", "a.b", "cba", "(c|ba)+[bc]")
        for text in texts:
            one = Pattern(text)
            for state in all_states(one):
                for sign in "abcdz":
                    told = one.step(state, sign)
                    self.assertIsInstance(told, tuple)
                    self.assertEqual(told, self.expected(one, state, sign), (text, state, sign))

    def test_states_behind_lines_by_the_words(self):
        """A position is in the state if a part that ends here is the beginning of a word, up to this position."""
        shapes = [shape for shape in (*small_shapes()[::3], *mixed_shapes(60, 3)) if len(places_of(shape)) <= 3]
        for shape in shapes:
            letters = places_of(shape)
            words = marked_words(shape, 6)
            for from_start in (False, True):
                one = Pattern(whole_text(shape, from_start, False))
                for line in lines_over("ab", 3):
                    state = (0,)
                    for sign in line:
                        state = one.step(state, sign)
                    told = set() if from_start and line else {0}
                    for start in range(1 if from_start else len(line)):
                        part = line[start:]
                        for word in words:
                            if 0 < len(part) <= len(word) and all(a in letters[n - 1] for a, n in zip(part, word)):
                                told.add(word[len(part) - 1])
                    self.assertEqual(state, tuple(sorted(told)), (one.text, line))

    def test_wrong_states(self):
        for text in ("ab", "^ab$", "a*|b"):
            one = Pattern(text)
            for state in no_states(one.many):
                for call in (lambda: one.step(state, "a"), lambda: one.is_end(state)):
                    with self.subTest(state=state):
                        with self.assertRaises(BadPieces) as caught:
                            call()
                        self.assertIs(caught.exception.value, state)

    def test_a_pattern_without_positions(self):
        for text in ("", "^", "()|"):
            one = Pattern(text)
            self.assertEqual((one.is_end((0,)), one.is_end(())), (True, False))
            self.assertEqual(one.step((0,), "a"), () if one.from_start else (0,))
            self.assertEqual(one.step((), "a"), () if one.from_start else (0,))
            for state in ((1,), (0, 1), (True,)):
                self.assertRaises(BadPieces, one.step, state, "a")
                self.assertRaises(BadPieces, one.is_end, state)

    def test_wrong_signs(self):
        for text in ("ab", "^ab$", "", "."):
            one = Pattern(text)
            for sign in NO_SIGNS:
                with self.subTest(text=text, sign=sign):
                    with self.assertRaises(BadLine) as caught:
                        one.step((0,), sign)
                    self.assertIs(caught.exception.value, sign)

    def test_the_leftmost_error_first(self):
        one = Pattern("ab")
        for state in no_states(one.many):
            for sign in NO_SIGNS:
                self.assertRaises(BadPieces, one.step, state, sign)


class EndTest(unittest.TestCase):
    def test_some_states(self):
        one = Pattern("ab|c")
        told = {(): False, (0,): False, (1,): False, (2,): True, (3,): True, (0, 1): False, (0, 2): True, (1, 3): True,
                (0, 1, 2, 3): True}
        for state, is_end in told.items():
            self.assertIs(one.is_end(state), is_end, state)

    def test_the_beginning_where_the_empty_word_is_described(self):
        for text in ("", "a*", "a?", "|a", "^", "^a*", "$", "^a?$", "(a|)"):
            self.assertIs(Pattern(text).is_end((0,)), True, text)
            self.assertIs(Pattern(text).is_end(()), False, text)
        for text in ("a", "a+", "a|b", "^a", "a$", "^a+$"):
            self.assertIs(Pattern(text).is_end((0,)), False, text)
        self.assertIs(Pattern("a?b?c|").is_end((1,)), False)

    def test_every_state(self):
        for text in ("a", "^ab$", "a*b?", "(a|b)*c", "a(b|[cd])*$", "^a?b?c?a?", "(a|)+(b|)+$", "ab(c|)"):
            one = Pattern(text)
            for state in all_states(one):
                told = any(place in one.last for place in state) or (0 in state and one.empty)
                self.assertIs(one.is_end(state), told, (text, state))


class HasTest(unittest.TestCase):
    def check(self, shape, lines):
        for from_start, to_end in ENDS:
            one = Pattern(whole_text(shape, from_start, to_end))
            for line in lines:
                self.assertIs(one.has(line), has(shape, from_start, to_end, line), (one.text, line))

    def test_small_patterns_and_all_short_lines(self):
        for shape in small_shapes():
            self.check(shape, lines_over("abc", 3))

    def test_mixed_patterns_and_all_short_lines(self):
        for shape in mixed_shapes(150, 12):
            self.check(shape, lines_over("abc", 4))

    def test_mixed_patterns_and_longer_lines(self):
        lines = ["abcabcab", "aaaaaaa", "cbacba", "bbabbab", "acacacac", "zzaz", "abzzba"]
        for shape in mixed_shapes(60, 12):
            self.check(shape, lines)

    def test_step_and_is_end_show_the_same(self):
        for shape in (*small_shapes()[::5], *mixed_shapes(80, 12)):
            for from_start, to_end in ENDS:
                one = Pattern(whole_text(shape, from_start, to_end))
                for line in lines_over("abc", 3):
                    ends = [one.is_end((0,))]
                    state = (0,)
                    for sign in line:
                        state = one.step(state, sign)
                        ends.append(one.is_end(state))
                    self.assertEqual(one.has(line), ends[-1] if to_end else any(ends), (one.text, line))

    def test_whole_lines_are_words(self):
        for shape in mixed_shapes(80, 12):
            one = Pattern(whole_text(shape, True, True))
            for line in lines_over("abc", 4):
                self.assertEqual(one.has(line), is_word(shape, line), (one.text, line))

    def test_ends_belong_to_the_whole_expression(self):
        one = Pattern("^a|b")
        self.assertEqual([one.has(line) for line in ("a", "b", "ca", "cb", "bc", "ac")],
                         [True, True, False, False, True, True])
        one = Pattern("a|b$")
        self.assertEqual([one.has(line) for line in ("a", "b", "ca", "bc", "ac")], [True, True, True, False, False])

    def test_empty_words(self):
        for text in ("", "$", "a*", "a*$", "^a*", "^", "(a|)", "()", "|"):
            for line in ("", "b", "ab", "ba"):
                self.assertIs(Pattern(text).has(line), True, (text, line))
        for line, told in {"": True, "a": False, "ab": False}.items():
            self.assertIs(Pattern("^$").has(line), told)
        for line, told in {"": True, "a": True, "aa": True, "ab": False, "b": False}.items():
            self.assertIs(Pattern("^a*$").has(line), told)

    def test_every_letter(self):
        for letter in string.ascii_lowercase:
            for other in string.ascii_lowercase:
                self.assertIs(Pattern(f"^{letter}$").has(other), letter == other)
                self.assertIs(Pattern(f"[{letter}]").has(other), letter == other)
            self.assertIs(Pattern(".").has(letter), True)

    def test_long_lines(self):
        self.assertIs(Pattern("ab").has("a" * 20000), False)
        self.assertIs(Pattern("ab").has("a" * 20000 + "b"), True)
        self.assertIs(Pattern("^(a|b)+c$").has("ab" * 10000 + "c"), True)
        self.assertIs(Pattern("^(a|b)+c$").has("ab" * 10000 + "cc"), False)

    def test_no_lines(self):
        for text in ("", "a", "^a$", "."):
            one = Pattern(text)
            for line in NO_LINES:
                with self.subTest(text=text, line=line):
                    with self.assertRaises(BadLine) as caught:
                        one.has(line)
                    self.assertIs(caught.exception.value, line)

    def test_a_wrong_letter_behind_a_match(self):
        self.assertRaises(BadLine, Pattern("a").has, "aA")


if __name__ == "__main__":
    unittest.main()
