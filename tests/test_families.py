"""Families of pieces (8)."""

import itertools
import unittest
from unittest import mock

from surelyhas.errors import BadPage, BadPieces, BadSigns
from surelyhas.families import Family
from tests.reckoned import choices_of, lines_over, pieces_in

EIGHT = ["a", "ab", "abc", "b", "ba", "c", "cc", "cab"]
NO_SIGNS = (None, 0, True, "", "ba", "aa", "abcdefg", "A", "a b", "a1", b"ab", ["a"], ("a",), {"a": 1}, object(), "ab\n")
NO_PIECES = (None, 0, True, "", "a", "ab", b"a", ("a",), (), {"a": 1}, {}, {"a"}, range(1), object(), str,
             ["a", "a"], ["ab", "b", "ab"], [""], ["a", ""], ["c"], ["ac"], ["abab"], ["aaaa"], ["A"], ["a "], [None],
             [1], [True], [["a"]], [("a",)], [b"a"], [{}], ["a", 1], ["a", ["b"]], [{"a"}], ["a", None, "a"])
NO_CHOICES = (None, 0, True, "", "a", "ab", b"a", ("a",), (), {"a": 1}, {}, {"a"}, range(1), object(), ["a", "a"],
              ["ba", "a", "ba"], [""], ["bb"], ["b"], ["aba"], ["A"], [None], [0], [True], [["a"]], [("a",)], [b"a"],
              [{}], ["a", 1], ["a", ["ab"]], ["a", "ab", "ba", "bb"], [mock.ANY], mock.ANY)
NO_LINES = (None, 0, True, "A", "a b", "c", "abc", "z", "a\n", b"a", ["a"], ("a",), (), [], {}, {"a": 1}, object(), "1",
            "\u00e4", 1.5)


class MakeTest(unittest.TestCase):
    def test_right_families(self):
        for signs, pieces in (("a", []), ("a", ["a"]), ("a", ["a", "aa", "aaa"]), ("ab", ["ba", "ab", "b"]),
                              ("abc", EIGHT), ("abcdef", ["fed", "f", "abc"]), ("mz", ["z", "zmz"])):
            one = Family(signs, pieces)
            self.assertEqual((one.signs, one.pieces), (signs, pieces))

    def test_number_of_pieces(self):
        words = ["".join(word) for many in (1, 2, 3) for word in itertools.product("ab", repeat=many)]
        for many in range(9):
            self.assertEqual(Family("ab", words[:many]).pieces, words[:many])
        for many in range(9, 15):
            with self.assertRaises(BadPieces) as caught:
                Family("ab", words[:many])
            self.assertEqual(caught.exception.value, words[:many])

    def test_number_of_signs(self):
        for many in range(1, 7):
            self.assertEqual(Family("abcdef"[:many], []).signs, "abcdef"[:many])
        for signs in ("", "abcdefg"):
            self.assertRaises(BadSigns, Family, signs, [])

    def test_wrong_signs(self):
        for signs in NO_SIGNS:
            for pieces in ([], ["a"], None, ["", 1]):
                with self.subTest(signs=signs, pieces=pieces):
                    with self.assertRaises(BadSigns) as caught:
                        Family(signs, pieces)
                    self.assertIs(caught.exception.value, signs)

    def test_wrong_pieces(self):
        for pieces in NO_PIECES:
            with self.subTest(pieces=pieces):
                with self.assertRaises(BadPieces) as caught:
                    Family("ab", pieces)
                self.assertIs(caught.exception.value, pieces)

    def test_letters_that_are_not_among_the_signs(self):
        for signs, piece in (("a", "b"), ("ab", "abc"), ("ac", "b"), ("bcd", "a"), ("abcdef", "g")):
            self.assertRaises(BadPieces, Family, signs, [piece])
            self.assertRaises(BadPieces, Family, signs, [signs[0], piece])


class PieceTest(unittest.TestCase):
    def test_of_many_pages(self):
        for pieces in (EIGHT, EIGHT[::-1], ["ab"], [], ["abc", "cc"]):
            one = Family("abc", pieces)
            lines = lines_over("abc", 3)
            for page in ((), *[(line,) for line in lines], *itertools.product(lines[:13], repeat=2),
                         ("abc", "", "cc"), ("a", "b", "c"), ("ccabcba", "b" * 50)):
                self.assertEqual(one.of(page), pieces_in(page, pieces), (pieces, page))

    def test_a_piece_stands_in_one_line(self):
        one = Family("ab", ["ab", "ba"])
        self.assertEqual(one.of(("a", "b")), [])
        self.assertEqual(one.of(("a", "ba", "b")), ["ba"])
        self.assertEqual(one.of(("ba", "ab")), ["ab", "ba"])

    def test_wrong_pages(self):
        one = Family("ab", ["ab", "b"])
        for page in (None, 0, True, "", "a", "ab", [], ["ab"], {}, object(), (None,), (1,), ("A",), ("a", ["b"]),
                     ("a", ("b",)), (b"a",), ("c",), ("ab", "abz"), ("a", "a b"), ("c", ""), (True,)):
            with self.subTest(page=page):
                with self.assertRaises(BadPage) as caught:
                    one.of(page)
                self.assertIs(caught.exception.value, page)

    def test_cut(self):
        one = Family("abc", EIGHT[:5])
        for choice in choices_of(EIGHT[:5]):
            for given in (choice, choice[::-1], choice[1:] + choice[:1]):
                told = one.cut(given)
                self.assertIs(type(told), Family)
                self.assertEqual((told.signs, told.pieces), ("abc", choice))
        self.assertEqual(one.cut(one.pieces), one)
        self.assertEqual(one.pieces, EIGHT[:5])

    def test_cut_by_wrong_choices(self):
        one = Family("ab", ["ba", "a", "ab"])
        for choice in NO_CHOICES:
            with self.subTest(choice=choice):
                with self.assertRaises(BadPieces) as caught:
                    one.cut(choice)
                self.assertIs(caught.exception.value, choice)

    def test_is_allowed(self):
        pieces = ["ab", "b", "bba", "aa"]
        one = Family("ab", pieces)
        for found in choices_of(pieces):
            for line in lines_over("ab", 5):
                told = all(piece in found for piece in pieces if piece in line)
                self.assertIs(one.is_allowed(found, line), told)
                self.assertIs(one.is_allowed(found[::-1], line), told)

    def test_values_that_are_no_allowed_lines(self):
        for pieces in (["ba", "a", "ab"], []):
            one = Family("ab", pieces)
            for line in NO_LINES:
                self.assertIs(one.is_allowed(pieces, line), False)

    def test_wrong_found(self):
        one = Family("ab", ["ba", "a", "ab"])
        for found in NO_CHOICES:
            for line in ("a", "c", None):
                with self.subTest(found=found, line=line):
                    with self.assertRaises(BadPieces) as caught:
                        one.is_allowed(found, line)
                    self.assertIs(caught.exception.value, found)


class EqualTest(unittest.TestCase):
    def test_signs_and_pieces_in_their_order(self):
        told = [("ab", []), ("abc", []), ("a", []), ("ab", ["a"]), ("ab", ["b"]), ("ab", ["a", "b"]),
                ("ab", ["b", "a"]), ("abc", ["a", "b"]), ("ab", ["ab"]), ("ab", ["ab", "a", "b"])]
        for one in told:
            for two in told:
                self.assertIs(Family(*one) == Family(*two), one == two)
                self.assertIs(Family(*one) != Family(*two), one != two)

    def test_other_classes(self):
        one = Family("ab", ["a"])
        for value in (None, 0, True, "ab", ["a"], ("ab", ["a"]), ("ab", ("a",)), {}, object(), Family):
            self.assertIs(one == value, False)
            self.assertIs(value == one, False)
            self.assertIs(one != value, True)

    def test_no_hash(self):
        with self.assertRaises(TypeError):
            hash(Family("ab", ["a"]))


class ChangedListTest(unittest.TestCase):
    def test_a_given_list_changed_afterwards(self):
        pieces = ["ab", "b"]
        one = Family("ab", pieces)
        pieces.append("a")
        pieces[0] = "zz"
        self.assertEqual((one.pieces, one.of(("ab",))), (["ab", "b"], ["ab", "b"]))
        self.assertEqual(one, Family("ab", ["ab", "b"]))

    def test_a_returned_list_changed_afterwards(self):
        one = Family("ab", ["ab", "b"])
        for told in (one.pieces, one.of(("ab",)), one.cut(["b"]).pieces):
            told.append("a")
            told[0] = "zz"
            self.assertEqual((one.pieces, one.of(("ab",)), one.cut(["b"]).pieces), (["ab", "b"], ["ab", "b"], ["b"]))

    def test_a_choice_changed_afterwards(self):
        one = Family("ab", ["ab", "b"])
        choice = ["b", "ab"]
        told = one.cut(choice)
        self.assertEqual(choice, ["b", "ab"])
        choice.clear()
        self.assertEqual(told.pieces, ["ab", "b"])

    def test_every_list_is_new(self):
        one = Family("ab", ["ab", "b"])
        lists = [one.pieces, one.pieces, one.of(("ab",)), one.of(("ab",)), one.cut(["ab", "b"]).pieces]
        self.assertEqual(len({id(told) for told in lists}), 5)


if __name__ == "__main__":
    unittest.main()
