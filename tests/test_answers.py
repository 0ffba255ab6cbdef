"""Answers and their evidence against a going through all short pages (9, and a of 3)."""

import itertools
import time
import unittest

from surelyhas.answers import answer_of, evidence
from surelyhas.errors import BadArgument, BadPieces
from surelyhas.families import Family
from surelyhas.questions import read_question
from surelyhas.worlds import worlds
from tests.cases import drawn_cases
from tests.reckoned import choices_of, had_by, is_met, lines_over, patterns_of, pieces_in, question_of


def answer_in(told):
    """The answer where pages tell these truths."""
    return "never" if not told else "surely" if all(told) else "open" if any(told) else "not"


class AnswerTest(unittest.TestCase):
    def check_evidence(self, family, tree, found, answer):
        pages = evidence(family, found, question_of(tree))
        self.assertIs(type(pages), tuple)
        self.assertEqual([page is None for page in pages],
                         {"surely": [False, True], "not": [True, False], "open": [False, False], "never": [True, True]}[answer])
        for page, met in zip(pages, (True, False)):
            if page is not None:
                self.assertTrue(type(page) is tuple and all(set(line) <= set(family.signs) for line in page))
                self.assertEqual(sorted(pieces_in(page, family.pieces)), sorted(found))
                self.assertIs(is_met(tree, had_by(page, patterns_of(tree))), met)

    def test_against_worlds_and_short_lines(self):
        seen = []
        other = 0
        for family, tree, lines in drawn_cases(12, 250):
            texts = patterns_of(tree)
            for found in choices_of(family.pieces):
                answer = answer_of(family, found, question_of(tree))
                seen.append(answer)
                for told in (worlds(family, found, question_of(tree)), worlds(family, found[::-1], question_of(tree))):
                    self.assertEqual(answer, answer_in([is_met(tree, [texts[k] for k in world]) for world in told]))
                short = answer_in([is_met(tree, [texts[k] for k in world]) for world in lines.worlds(found)])
                other += short != answer
                self.check_evidence(family, tree, found, answer)
        for told in ("surely", "not", "open", "never"):
            self.assertGreater(seen.count(told), 30)
        self.assertLess(other, 40)

    def test_against_all_short_pages(self):
        pages = [page for many in range(4) for page in itertools.combinations(lines_over("ab", 3), many)]
        for family, tree, _ in drawn_cases(22, 60, 2):
            if family.signs != "ab":
                continue
            told = {}
            for page in pages:
                met = is_met(tree, had_by(page, patterns_of(tree)))
                told.setdefault(tuple(pieces_in(page, family.pieces)), set()).add(met)
            for found, truths in told.items():
                answer = answer_of(family, list(found), question_of(tree))
                self.assertIn(answer, {"surely": ["surely", "open"], "not": ["not", "open"],
                                       "open": ["open"]}[answer_in(list(truths))])

    def test_some_answers(self):
        told = (("ab", ["ab"], ["ab"], "'ab'", "surely"), ("ab", ["ab"], [], "'ab'", "not"),
                ("ab", ["ab"], [], "'ba'", "open"), ("ab", ["ab", "aab"], ["aab"], "'ab'", "never"),
                ("ab", ["ab"], ["ab"], "'a' & 'b'", "surely"), ("ab", ["a", "b"], ["a", "b"], "'ab' | 'ba'", "open"),
                ("ab", ["a"], [], "'^b*$' | ~''", "surely"), ("ab", ["a"], [], "''", "open"),
                ("ab", [], [], "'z'", "not"), ("ab", [], [], "~'z'", "surely"), ("a", ["aa"], [], "'aa' | 'aaa'", "not"))
        for signs, pieces, found, text, answer in told:
            self.assertEqual(answer_of(Family(signs, pieces), found, read_question(text)), answer, (pieces, found, text))

    def test_eight_pieces_over_six_signs(self):
        family = Family("abcdef", ["ab", "bc", "cd", "de", "ef", "fa", "abc", "ace"])
        start = time.perf_counter()
        for tree in (("|", ("&", "a.*b", "b.*c$"), ("&", ("~", "^(ab|cd)*e"), "[abc]d.*f")),
                     ("&", ("|", "abcd", "a..b..c"), ("|", "e.?f$", "^[abc]*d")), ("&", "abc", ("~", "ed"))):
            for found in (family.pieces, ["ab", "bc", "abc", "ef"], ["ef", "fa"], []):
                self.check_evidence(family, tree, found, answer_of(family, found, question_of(tree)))
        self.assertLess(time.perf_counter() - start, 60)


class ArgumentTest(unittest.TestCase):
    family = Family("ab", ["ab", "b"])
    question = read_question("'a' & 'b'")

    def test_the_leftmost_first(self):
        for call in (answer_of, evidence):
            for family in (None, 0, True, "ab", ["ab"], self.question, Family):
                for found, question in ((["b"], self.question), (None, None), (["a"], "'a'")):
                    with self.assertRaises(BadArgument) as caught:
                        call(family, found, question)
                    self.assertIs(caught.exception.value, family)
            for found in (None, 0, "b", ("b",), ["a"], ["b", "b"], [1], [True], [["b"]], {"b": 1}):
                for question in (self.question, None, "'a'"):
                    with self.assertRaises(BadPieces) as caught:
                        call(self.family, found, question)
                    self.assertIs(caught.exception.value, found)
            for question in (None, 0, True, "'a'", self.family, self.question.patterns[0]):
                with self.assertRaises(BadArgument) as caught:
                    call(self.family, ["b"], question)
                self.assertIs(caught.exception.value, question)

    def test_what_was_given_stays(self):
        found = ["b", "ab"]
        for call in (answer_of, evidence):
            self.assertEqual(call(self.family, found, self.question), call(self.family, found, self.question))
            self.assertEqual(found, ["b", "ab"])


if __name__ == "__main__":
    unittest.main()
