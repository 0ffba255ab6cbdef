"""Which texts are patterns, and where the others go wrong (5)."""

import functools
import itertools
import re
import string
import unittest

from surelyhas.errors import BadPattern
from surelyhas.patterns import Pattern
from tests.shapes import mixed_shapes, places_of, small_shapes, text_of

BRANCHES = r"(?:[a-z.][*+?]*|\|)*"


def one_class(found):
    letters = found.group(1)
    return "a" if len(set(letters)) == len(letters) else "!"


@functools.lru_cache(maxsize=None)
def is_right(text):
    """Whether a text is a pattern, limits apart: each class and each innermost bracket is a letter to what is around."""
    text = text.removeprefix("^").removesuffix("$")
    text = re.sub(r"\[([a-z]+)\]", one_class, text)
    before = None
    while before != text:
        before = text
        text = re.sub(r"\(" + BRANCHES + r"\)", "a", text)
    return re.fullmatch(BRANCHES, text) is not None


@functools.lru_cache(maxsize=None)
def can_go_on(text):
    """Whether a pattern begins with a text, limits apart."""
    return any(is_right(text + close + ")" * many)
               for close in ("", "]", "a]", "b]", "c]") for many in range(len(text) + 1))


def first_wrong(text):
    """The index at which a text goes wrong, None if it is a pattern; limits apart."""
    for at in range(len(text)):
        if not can_go_on(text[:at + 1]):
            return at
    return None if is_right(text) else len(text)


def told_index(text):
    """The index that Pattern tells, "right" if there is no error."""
    try:
        Pattern(text)
    except BadPattern as error:
        return error.at
    return "right"


class RightTextTest(unittest.TestCase):
    def test_each_construct(self):
        for text in ("", "^", "$", "^$", "a", "z", ".", "[a]", "[ab]", "[ba]", "[zax]", "()", "(a)", "(())", "((a))",
                     "|", "||", "a|", "|a", "a|b", "a||b", "(|)", "(a|)", "(|a)", "(a|b|c)", "()()", "a()b",
                     "a*", "a+", "a?", ".*", "[ab]+", "(a)?", "()*", "(|)+", "a**", "a+?", "a?*+", "a++++", "(a*)*",
                     "((a+)?b)*", "^a", "a$", "^a$", "^a|b$", "^|$", "^(a|b)$", "^()$", "^a*$", "ab|cd", "a(b|[cd])*$"):
            self.assertEqual(told_index(text), "right", text)
            self.assertTrue(is_right(text), text)

    def test_every_letter(self):
        for letter in string.ascii_lowercase:
            self.assertEqual(Pattern(letter).letters(1), letter)
            self.assertEqual(Pattern(f"[{letter}]").letters(1), letter)

    def test_text_and_signs_of_ends(self):
        for text in ("", "a", "^a", "a$", "^a$", "^", "$", "^$", "[ba]", "a|b", "^a|b$", "(a**)?"):
            one = Pattern(text)
            self.assertEqual(one.text, text)
            self.assertIs(one.from_start, text.startswith("^"))
            self.assertIs(one.to_end, text.endswith("$"))

    def test_number_of_positions(self):
        told = {"": 0, "^$": 0, "()": 0, "|": 0, "a": 1, ".": 1, "[abc]": 1, "aa": 2, "a|a": 2, "(a)*": 1,
                "a(b|[cd])*$": 3, "^.[az]b|c": 4, "abcdefghijkl": 12, "............": 12}
        for text, many in told.items():
            self.assertIs(type(Pattern(text).many), int)
            self.assertEqual(Pattern(text).many, many, text)

    def test_made_from_shapes(self):
        for shape in (*small_shapes(), *mixed_shapes(300, 12)):
            text = text_of(shape)
            for whole in (text, "^" + text, text + "$", "^" + text + "$"):
                one = Pattern(whole)
                self.assertEqual((one.text, one.many), (whole, len(places_of(shape))))


class WrongTextTest(unittest.TestCase):
    def test_wrong_characters(self):
        told = {
            # A sign with no item ahead of it in its branch.
            "*": 0, "+": 0, "?": 0, "^*": 1, "^+a": 1, "(*)": 1, "(?a)": 1, "|*": 1, "a|+": 2, "a|?b": 2, "(a|*)": 3,
            # Brackets that do not fit.
            ")": 0, "a)": 1, "()a)": 3, "(a))": 3, "^)": 1, "]": 0, "a]": 1, "[a]]": 3, "(]": 1, "([a)": 3, "[(a)]": 1,
            # Classes.
            "[]": 1, "[]a]": 1, "[aa]": 2, "[aba]": 3, "[abcb]": 4, "[A]": 1, "[aB]": 2, "[.]": 1, "[a.]": 2, "[^a]": 1,
            "[a-c]": 2, "[a|b]": 2, "[a b]": 2, "[a*]": 2, "[[a]]": 1, "[a$]": 2, "[a1]": 2, "[\u00e4]": 1,
            # Beginnings and ends that are not those of the whole.
            "^^": 1, "a^": 1, "(^a)": 1, "|^a": 1, "a|^b": 2, "$^": 1, "$a": 1, "a$b": 2, "$$": 1, "a$|b": 2, "$|a": 1,
            "(a$)": 2, "($": 1, "(($": 2, "a$*": 2, "$)": 1, "a$ ": 2, "^*a": 1, "[$]": 1,
            # Other characters.
            "A": 0, "aB": 1, " ": 0, "a b": 1, "a ": 1, "\n": 0, "a\n": 1, "a$\n": 2, "(a\n": 2, "[a\n": 2, "1": 0,
            "a{2}": 1, "a\\b": 1, "-": 0, "a-b": 1, "\u00e4": 0, "a\u00df": 1, "a,b": 1, "'a'": 0, "a&b": 1, "~a": 0,
            "\x00": 0, "ab\x00": 2, "a\u0301": 1,
        }
        for text, at in told.items():
            self.assertEqual(told_index(text), at, text)

    def test_texts_that_end_too_early(self):
        for text in ("(", "((", "(a", "a(", "(a|", "(a|b", "(a(b)", "(()", "[", "[a", "[ab", "a[b", "([a]", "([",
                     "^(", "^[a", "(a)(", "(a)*(b", "[" + string.ascii_lowercase):
            self.assertEqual(told_index(text), len(text), text)

    def test_the_first_of_several_faults(self):
        for text, at in {"a)b)": 1, "a*|*(": 3, "[a(A": 2, "A[": 0, "(]$": 1, "a^$^": 1, "*abcdefghijklm": 0}.items():
            self.assertEqual(told_index(text), at, text)

    def test_every_short_text(self):
        for many in range(5):
            for signs in itertools.product("a.[]()|+^$", repeat=many):
                text = "".join(signs)
                at = first_wrong(text)
                self.assertEqual(told_index(text), "right" if at is None else at, text)

    def test_texts_with_one_character_more_or_less(self):
        for shape in mixed_shapes(40, 11):
            text = "^" + text_of(shape)[:30] + "$"
            for at in range(len(text) + 1):
                for more in ("", "b", "(", ")", "[", "]", "|", "*", "^", "$", "A"):
                    changed = text[:at] + more + text[at + (more == ""):]
                    wrong = first_wrong(changed)
                    self.assertEqual(told_index(changed), "right" if wrong is None else wrong, changed)

    def test_no_text(self):
        for value in (None, 0, 1, True, False, 1.5, b"", b"a", [], ["a"], (), ("a",), {}, {"a": 1}, {"a"}, object(),
                      str, Pattern("a")):
            with self.assertRaises(BadPattern) as caught:
                Pattern(value)
            self.assertIsNone(caught.exception.at)


class LimitTest(unittest.TestCase):
    def test_forty_characters(self):
        for text in ("(" + "|" * 38 + ")", "|" * 40, "a" + "*" * 39, "()" * 20, "^" + "(" * 19 + ")" * 19 + "$",
                     "^a" + "?" * 37 + "$", "[" + string.ascii_lowercase + "]" + "|" * 12, "(" * 20 + ")" * 20):
            self.assertEqual(len(text), 40)
            self.assertEqual(told_index(text), "right", text)
            self.assertEqual(Pattern(text).text, text)

    def test_more_than_forty_characters(self):
        for text in ("|" * 41, "a" + "*" * 40, "()" * 21, "|" * 40 + "A", "|" * 40 + ")", "|" * 40 + "*", "|" * 40 + "^",
                     "|" * 40 + "$", "|" * 39 + "$a", "|" * 39 + "$$", "|" * 50000, "()" * 20 + "\n", "a" + "?" * 39 + "]",
                     "(" * 20 + ")" * 20 + "a", "|" * 39 + "()", "|" * 39 + "[a]"):
            self.assertEqual(told_index(text), 40, text[:50])

    def test_wrong_before_forty(self):
        for many in range(40):
            for behind in ("", "|" * 39, "A", "*" * 80):
                self.assertEqual(told_index("|" * many + "A" + behind), many)
        self.assertEqual(told_index("|" * 39 + ")" + "|" * 9), 39)
        self.assertEqual(told_index("|" * 38 + "$a" + "|" * 9), 39)

    def test_brackets_that_can_no_more_be_closed(self):
        for many in range(1, 41):
            self.assertEqual(told_index("(" * many), many)
        for many in (41, 42, 80, 20000):
            self.assertEqual(told_index("(" * many), 40)
        self.assertEqual(told_index("(" * 21 + ")" * 21), 40)
        self.assertEqual(told_index("|" * 39 + "("), 40)
        self.assertEqual(told_index("|" * 39 + "["), 40)
        self.assertEqual(told_index("|" * 38 + "[a"), 40)
        self.assertEqual(told_index("|" * 38 + "[a]"), 40)
        self.assertEqual(told_index("|" * 38 + "[]"), 39)
        self.assertEqual(told_index("(" * 30 + "A" + ")" * 30), 30)

    def test_twelve_positions(self):
        for text in ("a" * 12, "." * 12, "[ab]" * 10, "[ab]" * 6 + "a" * 6, "(a|b)" * 6, "a" * 12 + "*" * 28,
                     "a" * 12 + "()|()$", "^" + "a|" * 12 + "$", "^((a.)*b)*" + "[c]" * 9):
            self.assertEqual(told_index(text), "right", text)

    def test_the_thirteenth_position(self):
        told = {"a" * 13: 12, "." * 13: 12, "a" * 40: 12, "a" * 60: 12, "a" * 12 + "[ab]": 12, "a" * 12 + "[": 12,
                "a" * 12 + "*(.": 14, "a" * 12 + "|||b": 15, "^" + "a" * 13 + "$": 13, "(a|b)" * 6 + "c": 30,
                "(a|b)" * 6 + "(|(c": 33, "a" * 11 + "[abc]d": 16, "[ab]" * 6 + "a" * 7: 30, "a*" * 12 + "b": 24,
                "a" * 12 + "$": "right"}
        for text, at in told.items():
            self.assertEqual(told_index(text), at, text)

    def test_a_thirteenth_position_and_another_fault(self):
        told = {
            # The other one is ahead of it,
            "A" + "a" * 13: 0, "a" * 12 + ")a": 12, "a" * 12 + "^b": 12, "a" * 12 + "|*b": 13, "a" * 12 + "$b": 13,
            "a" * 11 + "[]b": 12, "a" * 11 + "[aa]b": 13, "a" * 12 + "]": 12,
            # or behind it, also within the class that is the thirteenth,
            "a" * 12 + "[A]": 12, "a" * 12 + "[]": 12, "a" * 13 + "A": 12, "(" + "a" * 13: 13, "a" * 13 + ")": 12,
            "a" * 12 + ".*)": 12, "(" * 5 + "a" * 13: 17, "[" * 3: 1,
            # or it is the length.
            "a" * 12 + "*" * 27 + "b" + "c": 39, "a" * 12 + "*" * 28 + "b": 40, "a" * 12 + "*" * 29 + "b": 40,
        }
        for text, at in told.items():
            self.assertEqual(told_index(text), at, text)


if __name__ == "__main__":
    unittest.main()
