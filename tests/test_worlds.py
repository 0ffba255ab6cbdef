"""Worlds against a going through all short lines (9)."""

import random
import time
import unittest

from surelyhas.errors import BadArgument, BadPieces
from surelyhas.families import Family
from surelyhas.questions import read_question
from surelyhas.worlds import can_be_had, had_sets, world_page, worlds
from tests.cases import FAMILIES, TEXTS, drawn_cases
from tests.reckoned import Lines, all_tuples, choices_of, had_by, lines_over, patterns_of, pieces_in, question_of


class WorldTest(unittest.TestCase):
    def check(self, family, tree, lines, found):
        """All that worlds and world_page tell for one found."""
        question = question_of(tree)
        texts = patterns_of(tree)
        told = worlds(family, found, question)
        self.assertEqual(told, sorted(told))
        self.assertEqual(len(set(told)), len(told))
        for world in lines.worlds(found):
            self.assertIn(world, told)
        for world in all_tuples(len(texts)):
            page = world_page(family, found, question, world)
            if world not in told:
                self.assertIsNone(page)
                continue
            self.assertIs(type(page), tuple)
            self.assertTrue(all(set(line) <= set(family.signs) for line in page))
            self.assertEqual(pieces_in(page, family.pieces), [piece for piece in family.pieces if piece in found])
            self.assertEqual(had_by(page, texts), [texts[number] for number in world])
        return told

    def test_drawn_families_and_questions(self):
        longer = 0
        for family, tree, lines in drawn_cases(9, 250):
            for found in choices_of(family.pieces):
                longer += self.check(family, tree, lines, found) != lines.worlds(found)
        # Most of what there is shows in short lines; else little would be compared here.
        self.assertLess(longer, 60)

    def test_every_pattern_alone(self):
        for signs, pieces, most in FAMILIES[4:14:3]:
            for text in TEXTS:
                lines = Lines(signs, pieces, [text], most)
                for found in choices_of(pieces):
                    self.check(Family(signs, pieces), text, lines, found)

    def test_the_order_of_found_does_not_count(self):
        for family, tree, _ in drawn_cases(19, 40):
            question = question_of(tree)
            for found in choices_of(family.pieces):
                told = worlds(family, found, question)
                self.assertEqual(worlds(family, found[::-1], question), told)
                for world in told:
                    page = world_page(family, found[::-1], question, world)
                    self.assertEqual(family.of(page), [piece for piece in family.pieces if piece in found])

    def test_some_worlds(self):
        told = (
            # A page without lines has no pattern.
            ("ab", ["a", "b"], [], "''", [(), (0,)]), ("ab", ["a", "b"], [], "'^'", [(), (0,)]),
            ("ab", ["a"], ["a"], "''", [(0,)]), ("ab", ["a", "b"], [], "'b'", [()]),
            ("ab", ["a", "b"], ["b"], "'a'|'b'", [(1,)]), ("ab", [], [], "'a'|'b'", [(), (0,), (0, 1), (1,)]),
            ("ab", ["a"], ["a"], "'^a'|'^b'", [(0,), (0, 1), (1,)]),
            # Found that can't be had.
            ("ab", ["ab", "aab"], ["aab"], "'a'", []), ("a", ["a", "aa"], ["aa"], "'a'|'aa'", []),
            # The order in which tuples are compared.
            ("abc", [], [], "'a' | 'b' | 'c'", [(), (0,), (0, 1), (0, 1, 2), (0, 2), (1,), (1, 2), (2,)]),
            # Patterns with letters that are not among the signs.
            ("ab", ["ab"], ["ab"], "'z' | 'ab'", [(1,)]), ("ab", [], [], "'az*' & 'z'", [(), (0,)]),
            ("a", [], [], "'^z*$'", [(), (0,)]), ("ab", [], [], "'[az]' | '.z'", [(), (0,)]),
            # Pieces alone.
            ("ab", ["a", "ab"], ["a"], "'ab' | 'aa'", [(), (1,)]), ("ab", ["a", "ab"], ["a", "ab"], "'ab'", [(0,)]),
        )
        for signs, pieces, found, text, expected in told:
            self.assertEqual(worlds(Family(signs, pieces), found, read_question(text)), expected, (pieces, found, text))

    def test_not_a_line_but_a_page(self):
        """Two lines can have what one alone can't."""
        family = Family("ab", ["ba"])
        question = read_question("'^a+$' & '^b+$'")
        self.assertEqual(worlds(family, [], question), [(), (0,), (0, 1), (1,)])
        self.assertEqual(sorted(world_page(family, [], question, (0, 1))), ["a", "b"])

    def test_long_lines_are_found(self):
        family = Family("ab", ["bb"])
        question = read_question("'a..........b$' & '^(ab|b)*$'")
        page = world_page(family, [], question, (0,))
        self.assertEqual(had_by(page, ["a..........b$", "^(ab|b)*$"]), ["a..........b$"])
        question = read_question("'^............$'")
        self.assertEqual(worlds(family, ["bb"], question), [(), (0,)])
        self.assertEqual([len(line) for line in world_page(family, [], question, (0,))], [12])


class HadTest(unittest.TestCase):
    def check(self, signs, pieces, most):
        family = Family(signs, pieces)
        lines = Lines(signs, pieces, [], most)
        told = [found for found in choices_of(pieces) if lines.worlds(found)]
        self.assertEqual(had_sets(family), told)
        for found in choices_of(pieces):
            self.assertIs(can_be_had(family, found), found in told)
            self.assertIs(can_be_had(family, found[::-1]), found in told)

    def test_small_families(self):
        for signs, pieces, _ in FAMILIES:
            self.check(signs, pieces, 6 if len(signs) < 3 else 5)

    def test_drawn_families(self):
        chooser = random.Random(9)
        for signs, most in (("a", 6), ("ab", 7), ("abc", 5)):
            words = [line for line in lines_over(signs, 3) if line]
            for _ in range(25):
                self.check(signs, chooser.sample(words, chooser.randrange(0, min(6, len(words)))), most)

    def test_no_pieces(self):
        self.assertEqual(had_sets(Family("abc", [])), [[]])
        self.assertIs(can_be_had(Family("abc", []), []), True)

    def test_the_order_of_sets(self):
        self.assertEqual(had_sets(Family("abc", ["c", "a", "b"])),
                         [[], ["c"], ["a"], ["b"], ["c", "a"], ["c", "b"], ["a", "b"], ["c", "a", "b"]])
        self.assertEqual(had_sets(Family("ab", ["ab", "b", "a"])), [[], ["b"], ["a"], ["b", "a"], ["ab", "b", "a"]])


class WrongArgumentTest(unittest.TestCase):
    family = Family("ab", ["ab", "b"])
    question = read_question("'a' & 'b'")
    no_families = (None, 0, True, "", "ab", ["ab"], ("ab", ["ab"]), {}, object(), Family, question)
    no_found = (None, 0, True, "", "ab", ("ab",), (), {}, {"ab": 1}, {"ab"}, ["ab", "ab"], ["a"], ["bb"], [""], [None],
                [1], [True], [["ab"]], [("b",)], [b"b"], ["ab", "b", "a"], [{}], object())
    no_questions = (None, 0, True, "", "'a'", b"'a'", [], ["'a'"], {}, object(), family, question.patterns[0])
    no_worlds = (None, 0, True, "", "0", [], [0], {}, {0}, (True,), (False,), (0, True), (2,), (0, 2), (-1,), (-1, 0),
                 (0, 0), (1, 0), (0.0,), ("0",), ((0,),), (0, 1, 2), object(), range(1))

    def check(self, error, value, call):
        with self.assertRaises(error) as caught:
            call()
        self.assertIs(caught.exception.value, value)

    def test_wrong_families(self):
        for family in self.no_families:
            for found, question, world in ((["ab"], self.question, ()), (None, None, None), (["a"], "'a'", (7,))):
                self.check(BadArgument, family, lambda: worlds(family, found, question))
                self.check(BadArgument, family, lambda: world_page(family, found, question, world))
                self.check(BadArgument, family, lambda: can_be_had(family, found))
            self.check(BadArgument, family, lambda: had_sets(family))

    def test_wrong_found(self):
        for found in self.no_found:
            for question, world in ((self.question, ()), (None, None), ("'a'", (7,)), (self.question, [0])):
                self.check(BadPieces, found, lambda: worlds(self.family, found, question))
                self.check(BadPieces, found, lambda: world_page(self.family, found, question, world))
            self.check(BadPieces, found, lambda: can_be_had(self.family, found))

    def test_wrong_questions(self):
        for question in self.no_questions:
            for found in ([], ["b", "ab"], ["ab"]):
                self.check(BadArgument, question, lambda: worlds(self.family, found, question))
                for world in ((), (7,), None):
                    self.check(BadArgument, question, lambda: world_page(self.family, found, question, world))

    def test_wrong_worlds(self):
        for world in self.no_worlds:
            for found in ([], ["b"], ["ab"]):
                self.check(BadPieces, world, lambda: world_page(self.family, found, self.question, world))


class ChangedListTest(unittest.TestCase):
    def test_what_was_given_stays(self):
        family, question = Family("ab", ["a", "ab"]), read_question("'ab' & 'b'")
        found = ["ab", "a"]
        for call in (lambda: worlds(family, found, question), lambda: world_page(family, found, question, (0, 1)),
                     lambda: can_be_had(family, found)):
            self.assertEqual(call(), call())
            self.assertEqual(found, ["ab", "a"])
        self.assertEqual((family, question), (Family("ab", ["a", "ab"]), read_question("'ab' & 'b'")))

    def test_what_was_returned_may_be_changed(self):
        family, question = Family("ab", ["a", "ab"]), read_question("'ab' | 'b'")
        before = worlds(family, ["a"], question), had_sets(family)
        worlds(family, ["a"], question).clear()
        for found in had_sets(family):
            found.append("zz")
        had_sets(family).clear()
        self.assertEqual((worlds(family, ["a"], question), had_sets(family)), before)
        told = [*had_sets(family), *had_sets(family)]
        self.assertEqual(len({id(found) for found in told}), len(told))


class LargeTest(unittest.TestCase):
    family = Family("abcdef", ["ab", "bc", "cd", "de", "ef", "fa", "abc", "ace"])

    def test_eight_pieces_over_six_signs(self):
        start = time.perf_counter()
        for text in ("'a.*b' & 'b.*c$' | ~'^(ab|cd)*e' & '[abc]d.*f'", "'abcdef' | 'fedcba' & 'a..b..c' | ~'e.?f$'",
                     "'^(a|b|c)*$' & '^[def]+$' | 'a......b' & 'f......e'", "'a....b....$' | '^.*ab' | 'ef.*ab' | 'aa'"):
            question = read_question(text)
            texts = [pattern.text for pattern in question.patterns]
            for found in (self.family.pieces, self.family.pieces[::-2], ["abc", "ab", "bc"], []):
                told = worlds(self.family, found, question)
                self.assertTrue(told)
                for world in told:
                    page = world_page(self.family, found, question, world)
                    self.assertEqual(sorted(self.family.of(page)), sorted(found))
                    self.assertEqual(had_by(page, texts), [texts[number] for number in world])
        self.assertEqual(len(had_sets(self.family)), 160)
        self.assertLess(time.perf_counter() - start, 60)


if __name__ == "__main__":
    unittest.main()
