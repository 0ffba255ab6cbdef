"""The tests of kinds for texts (4), and pages as texts."""

import itertools
import string
import unittest

from surelyhas.errors import BadPage, BadText
from surelyhas.words import is_line, is_name, is_page, is_signs, is_word, read_page, show_page

# None of these is a line, a name, signs or a word; those that are a page stand in their own test.
OTHER_KINDS = (None, 0, 1, -1, True, False, 1.5, b"", b"a", [], ["a"], {}, {"a": 1}, set(), {"a"}, frozenset(),
               object(), str, len, range(3))
TUPLES = ((), ("a",), ("a", "b"))
# Letters that Python calls small, or takes for letters, but that are not of a to z.
STRANGE = ("A", "Z", "aB", "Ab", "\u00e4", "\u00df", "\u03b1", "\u0430", "\u00aa", "\uff41", "a\u0301", "1", "a1",
           "a b", " ", " a", "a ", "a\n", "\n", "\ta", "-", "=", "a-b", "a_b", "_", "a.", "{", "`", "@", "a\x00", "'")


def all_pages():
    lines = ("", "a", "zb")
    return [page for many in range(4) for page in itertools.product(lines, repeat=many)]


class KindTest(unittest.TestCase):
    def test_lines(self):
        for value in ("", "a", "z", "ba", "aaa", string.ascii_lowercase, "q" * 50000):
            self.assertIs(is_line(value), True, value[:30])

    def test_every_small_letter(self):
        for letter in string.ascii_lowercase:
            for test in (is_line, is_name, is_signs, is_word):
                self.assertIs(test(letter), True, letter)

    def test_every_other_character(self):
        for code in (*range(97), *range(123, 1200)):
            for test in (is_line, is_name, is_signs, is_word):
                self.assertIs(test(chr(code)), False, code)

    def test_names(self):
        for value in ("a", "zz", "abcdefgh", "aaaaaaaa", "hgfedcba"):
            self.assertIs(is_name(value), True, value)
        for value in ("", "abcdefghi", "aaaaaaaaa", "a" * 100):
            self.assertIs(is_name(value), False, value)

    def test_words(self):
        for value in ("a", "zz", "aba", "zyx"):
            self.assertIs(is_word(value), True, value)
        for value in ("", "abcd", "aaaa", "a" * 100):
            self.assertIs(is_word(value), False, value)

    def test_signs(self):
        for value in ("a", "z", "ab", "az", "bcd", "abcdef", "uvwxyz", "agmsyz"):
            self.assertIs(is_signs(value), True, value)
        for value in ("", "abcdefg", string.ascii_lowercase):
            self.assertIs(is_signs(value), False, value)

    def test_signs_out_of_order_or_twice(self):
        for value in ("ba", "acb", "bac", "zyxwvu", "abcdfe", "aa", "aab", "abb", "aba", "abcdee", "aaaaaa"):
            self.assertIs(is_signs(value), False, value)

    def test_strange_letters(self):
        for value in STRANGE:
            for test in (is_line, is_name, is_signs, is_word):
                self.assertIs(test(value), False, value)
            self.assertIs(is_page((value,)), False, value)

    def test_a_strange_letter_at_any_place(self):
        for at in range(5):
            self.assertIs(is_line("abcde"[:at] + "-" + "abcde"[at:]), False)
            self.assertIs(is_name("abcde"[:at] + "A" + "abcde"[at:]), False)

    def test_other_kinds(self):
        for value in (*OTHER_KINDS, *TUPLES):
            for test in (is_line, is_name, is_signs, is_word):
                self.assertIs(test(value), False, value)

    def test_pages(self):
        for value in (*all_pages(), ("abc",) * 200):
            self.assertIs(is_page(value), True)

    def test_no_pages(self):
        for value in (*OTHER_KINDS, "", "a", "=a", ["a", "b"], (None,), (1,), ("a", None), ("a", 1), (True,),
                      (b"a",), ("a", ["b"]), ("a", ("b",)), ((),), ("A",), ("a", "B"), ("a b",), ("a", "b\n")):
            self.assertIs(is_page(value), False, value)


class PageTextTest(unittest.TestCase):
    def test_show_page(self):
        told = {(): "-", ("",): "=", ("", ""): "=/=", ("a",): "=a", ("ab", "", "c"): "=ab/=/=c",
                ("", "a"): "=/=a", ("a", ""): "=a/=", ("b", "a", "b"): "=b/=a/=b"}
        for page, text in told.items():
            self.assertEqual(show_page(page), text)
            self.assertEqual(read_page(text), page)

    def test_pages_are_read_back_as_written(self):
        for page in (*all_pages(), ("abc",) * 200, ("x" * 9000, "")):
            told = read_page(show_page(page))
            self.assertIsInstance(told, tuple)
            self.assertEqual(told, page)

    def test_texts_of_pages_differ(self):
        texts = [show_page(page) for page in all_pages()]
        self.assertEqual(len(set(texts)), len(texts))

    def test_every_short_text(self):
        """A text tells a page only if it is what show_page writes for it."""
        written = {show_page(page) for page in short_pages()}
        for many in range(6):
            for signs in itertools.product("a=/-", repeat=many):
                text = "".join(signs)
                try:
                    page = read_page(text)
                except BadText as error:
                    self.assertIsNone(error.at)
                    self.assertNotIn(text, written)
                else:
                    self.assertEqual(show_page(page), text)

    def test_almost_pages(self):
        for text in ("", "a", "-a", "a-", "--", "- ", " -", "-\n", "=a/", "/=a", "=a//=b", "=a/b", "a/=b", "=A", "==",
                     "=a=b", "=a =b", "= a", "=a ", " =a", "=a\n", "=a,=b", "-/=a", "=a/-", "=-", "=1", "=\u00e4",
                     "/", "=a\\=b", "()", "('a',)", "\n"):
            with self.subTest(text=text):
                with self.assertRaises(BadText) as caught:
                    read_page(text)
                self.assertIsNone(caught.exception.at)

    def test_read_page_of_no_text(self):
        for value in (*OTHER_KINDS, *TUPLES, b"-", b"=a", ["=a"], ("=a",), {"=a": 1}):
            with self.subTest(value=value):
                with self.assertRaises(BadText) as caught:
                    read_page(value)
                self.assertIsNone(caught.exception.at)

    def test_show_page_of_no_page(self):
        for value in (*OTHER_KINDS, "", "a", "-", "=a", ["a"], ("A",), ("a", 1), ("a", ("b",)), (None,), ("a/b",),
                      ("=a",), ("-",), (True,)):
            with self.subTest(value=value):
                with self.assertRaises(BadPage) as caught:
                    show_page(value)
                self.assertIs(caught.exception.value, value)


def short_pages():
    return [page for many in range(4) for page in itertools.product(("", "a", "aa", "aaa", "aaaa"), repeat=many)]


if __name__ == "__main__":
    unittest.main()
