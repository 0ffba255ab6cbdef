"""The positions of a pattern: their letters, and where they can stand in words (5)."""

import string
import unittest

from surelyhas.errors import BadPattern
from surelyhas.patterns import Pattern
from tests.shapes import marked_words, mixed_shapes, places_of, small_shapes, text_of

NO_POSITIONS = (0, -1, -2, True, False, None, 1.0, "1", "a", b"1", [], [1], (), (1,), {}, {1: 1}, object(), 10 ** 30)


def follows_of(pattern):
    return [pattern.follows(position) for position in range(1, pattern.many + 1)]


class LettersTest(unittest.TestCase):
    def test_each_kind_of_position(self):
        one = Pattern("a.[zbx]([q])|z*[ba]?")
        self.assertEqual([one.letters(position) for position in range(1, 7)],
                         ["a", string.ascii_lowercase, "bxz", "q", "z", "ab"])

    def test_classes_ascend(self):
        for written, letters in {"[cba]": "abc", "[az]": "az", "[za]": "az", "[mno]": "mno", "[onm]": "mno",
                                 f"[{string.ascii_lowercase[::-1]}]": string.ascii_lowercase}.items():
            self.assertEqual(Pattern(written).letters(1), letters)

    def test_numbered_from_the_left(self):
        one = Pattern("^((a)|b(c|(d)e)*)f$")
        self.assertEqual("".join(one.letters(position) for position in range(1, 7)), "abcdef")

    def test_made_from_shapes(self):
        for shape in (*small_shapes(), *mixed_shapes(200, 12)):
            one = Pattern(text_of(shape))
            told = [one.letters(position) for position in range(1, one.many + 1)]
            self.assertEqual(told, ["".join(sorted(letters)) for letters in places_of(shape)])


class PlaceTest(unittest.TestCase):
    def check(self, text, first, last, empty, follows):
        one = Pattern(text)
        told = (one.first, one.last, one.empty, follows_of(one))
        self.assertEqual(told, (first, last, empty, follows), text)
        self.assertIs(one.empty, empty)

    def test_each_construct(self):
        self.check("", [], [], True, [])
        self.check("a", [1], [1], False, [[]])
        self.check(".", [1], [1], False, [[]])
        self.check("[ab]", [1], [1], False, [[]])
        self.check("ab", [1], [2], False, [[2], []])
        self.check("a|b", [1, 2], [1, 2], False, [[], []])
        self.check("a*", [1], [1], True, [[1]])
        self.check("a+", [1], [1], False, [[1]])
        self.check("a?", [1], [1], True, [[]])
        self.check("(a)", [1], [1], False, [[]])

    def test_rows(self):
        self.check("abc", [1], [3], False, [[2], [3], []])
        self.check("a?bc", [1, 2], [3], False, [[2], [3], []])
        self.check("ab?c", [1], [3], False, [[2, 3], [3], []])
        self.check("abc?", [1], [2, 3], False, [[2], [3], []])
        self.check("a?b?c?", [1, 2, 3], [1, 2, 3], True, [[2, 3], [3], []])
        self.check("a*b+c", [1, 2], [3], False, [[1, 2], [2, 3], []])

    def test_several_signs(self):
        for signs in ("**", "*?", "?*", "+?", "?+", "+*", "*+", "?*+", "++?", "??+"):
            self.check("a" + signs, [1], [1], True, [[1]])
            self.check("(ab)" + signs, [1], [2], True, [[2], [1]])
        self.check("a++", [1], [1], False, [[1]])
        self.check("a??", [1], [1], True, [[]])
        self.check("ab+?", [1], [1, 2], False, [[2], [2]])

    def test_empty_branches(self):
        self.check("|", [], [], True, [])
        self.check("a|", [1], [1], True, [[]])
        self.check("|a", [1], [1], True, [[]])
        self.check("a||b", [1, 2], [1, 2], True, [[], []])
        self.check("a(|b)c", [1], [3], False, [[2, 3], [3], []])
        self.check("(a|)+b", [1, 2], [2], False, [[1, 2], []])

    def test_empty_brackets(self):
        self.check("()", [], [], True, [])
        self.check("()*", [], [], True, [])
        self.check("()+", [], [], True, [])
        self.check("a()b", [1], [2], False, [[2], []])
        self.check("()a", [1], [1], False, [[]])
        self.check("a()", [1], [1], False, [[]])
        self.check("(a()*)+", [1], [1], False, [[1]])

    def test_signs_are_said_of_the_item_alone(self):
        self.check("ab*", [1], [1, 2], False, [[2], [2]])
        self.check("ab+c", [1], [3], False, [[2], [2, 3], []])
        self.check("(ab)*c", [1, 3], [3], False, [[2], [1, 3], []])
        self.check("a|b*", [1, 2], [1, 2], True, [[], [2]])
        self.check("(a|b)*", [1, 2], [1, 2], True, [[1, 2], [1, 2]])
        self.check("(a*b)*c", [1, 2, 3], [3], False, [[1, 2], [1, 2, 3], []])

    def test_ends_of_lines_change_no_places(self):
        for text in ("a", "a|b", "a*b?", "", "(ab)+|c"):
            for whole in ("^" + text, text + "$", "^" + text + "$"):
                one, two = Pattern(text), Pattern(whole)
                self.assertEqual((two.first, two.last, two.empty, follows_of(two)),
                                 (one.first, one.last, one.empty, follows_of(one)))

    def test_by_all_words_of_shapes(self):
        shapes = [shape for shape in (*small_shapes(), *mixed_shapes(300, 4)) if len(places_of(shape)) <= 4]
        self.assertGreater(len(shapes), 500)
        for shape in shapes:
            many = len(places_of(shape))
            # A word that shows what can follow goes no more than twice through each position.
            words = marked_words(shape, {0: 1, 1: 3, 2: 5, 3: 6, 4: 7}[many])
            pairs = {pair for word in words for pair in zip(word, word[1:])}
            first = sorted({word[0] for word in words if word})
            last = sorted({word[-1] for word in words if word})
            follows = [sorted({two for one, two in pairs if one == position}) for position in range(1, many + 1)]
            self.check(text_of(shape), first, last, () in words, follows)


class WrongPositionTest(unittest.TestCase):
    def test_no_positions(self):
        for text in ("", "a", "ab", "a(b|[cd])*$", "abcdefghijkl"):
            one = Pattern(text)
            for value in (*NO_POSITIONS, one.many + 1, one.many + 2, -one.many):
                for call in (one.letters, one.follows):
                    with self.subTest(text=text, value=value):
                        with self.assertRaises(BadPattern) as caught:
                            call(value)
                        self.assertIsNone(caught.exception.at)

    def test_the_outermost_positions_are_right(self):
        one = Pattern("ab[c]")
        self.assertEqual((one.letters(1), one.letters(3), one.follows(1), one.follows(3)), ("a", "c", [2], []))


if __name__ == "__main__":
    unittest.main()
