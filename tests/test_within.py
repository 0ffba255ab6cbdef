"""Whether questions lie within each other, against all pages of a few short lines (14, and g of 3)."""

import random
import time
import unittest

from surelyhas.errors import BadArgument, BadQuestion, BadSigns
from surelyhas.questions import read_question
from surelyhas.within import is_alike, lies_within, page_outside
from tests.cases import TEXTS
from tests.reckoned import drawn_tree, had_by, is_met, lines_over, patterns_of, question_of
from tests.wrong import NO_QUESTION, NO_SIGNS, QUESTION, check_wrong

MOST = {"a": 7, "z": 7, "ab": 6, "bz": 6, "abc": 5, "abz": 5}


def pages_over(signs, texts):
    """The sets of some patterns that pages of a few short lines have."""
    kinds = {frozenset(had_by((line,), texts)) for line in lines_over(signs, MOST[signs])}
    told = {frozenset()}
    for _ in range(4):
        told |= {one | kind for one in told for kind in kinds}
    return told


def drawn_pairs(seed, many):
    """Signs with two trees of questions, which have at most four patterns together."""
    chooser = random.Random(seed)
    told = []
    while len(told) < many:
        leaves = [chooser.choice(TEXTS) for _ in range(4)]
        trees = [drawn_tree(chooser, [chooser.choice(leaves) for _ in range(chooser.randrange(1, 4))]) for _ in range(2)]
        told.append((chooser.choice(list(MOST)), *trees))
    return told


class WithinTest(unittest.TestCase):
    def check(self, signs, one, two):
        """All that is told of two trees; returns whether the first lies within the second."""
        texts = list(dict.fromkeys(patterns_of(one) + patterns_of(two)))
        question, other = question_of(one), question_of(two)
        pages = pages_over(signs, texts)
        outside = [page for page in pages if is_met(one, page) and not is_met(two, page)]
        behind = [page for page in pages if is_met(two, page) and not is_met(one, page)]
        told = lies_within(signs, question, other)
        self.assertIs(told, not outside, (signs, question.show(), other.show()))
        self.assertIs(is_alike(signs, question, other), not outside and not behind)
        self.assertIs(is_alike(signs, other, question), not outside and not behind)
        page = page_outside(signs, question, other)
        self.assertEqual(page is None, told)
        if page is not None:
            self.assertIs(type(page), tuple)
            self.assertTrue(all(type(line) is str and set(line) <= set(signs) for line in page))
            had = had_by(page, texts)
            self.assertTrue(is_met(one, had) and not is_met(two, had), (signs, question.show(), other.show(), page))
        return told

    def test_drawn_pairs(self):
        seen = {True: 0, False: 0}
        for signs, one, two in drawn_pairs(14, 600):
            seen[self.check(signs, one, two)] += 1
            self.check(signs, two, one)
        self.assertGreater(min(seen.values()), 100)

    def test_every_pattern_with_every_other(self):
        seen = {True: 0, False: 0}
        for one in TEXTS:
            for two in TEXTS:
                seen[self.check("ab", one, two)] += 1
        self.assertGreater(min(seen.values()), 100)

    def test_a_question_with_itself(self):
        for signs, one, _ in drawn_pairs(24, 60):
            self.assertTrue(self.check(signs, one, one))
            self.assertTrue(self.check(signs, one, ("~", ("~", one))))
            self.assertTrue(self.check(signs, one, ("|", one, one)))
            self.check(signs, one, ("~", one))
            self.check(signs, ("~", one), one)

    def test_letters_that_are_not_among_the_signs(self):
        for texts, within in ((("'z'", "'a'"), True), (("'a'", "'z'"), False), (("'.'", "'[ab]'"), True),
                              (("'c'", "'d'"), True), (("'az?b'", "'ab'"), True), (("'a.b'", "'aab|abb'"), True)):
            one, two = map(read_question, texts)
            self.assertIs(lies_within("ab", one, two), within)
        one, two = map(read_question, ("'.'", "'[ab]'"))
        self.assertEqual((is_alike("ab", one, two), is_alike("abc", one, two)), (True, False))
        self.assertEqual(page_outside("abc", one, two), ("c",))

    def test_questions_that_no_page_or_every_page_meets(self):
        none, all_pages = ("'z'", "'a' & ~'a'"), ("~'z'", "'a' | ~'a'")
        for text in ("'a'", "'^$'", "''", "'z'", "~'b'", *none, *all_pages):
            question = read_question(text)
            for one in none:
                self.assertIs(lies_within("ab", read_question(one), question), True)
                self.assertIsNone(page_outside("ab", read_question(one), question))
            for one in all_pages:
                self.assertIs(lies_within("ab", question, read_question(one)), True)
                self.assertIsNone(page_outside("ab", question, read_question(one)))
        for one in all_pages:
            for other in none:
                self.assertIs(lies_within("ab", read_question(one), read_question(other)), False)
                self.assertTrue(set("".join(page_outside("ab", read_question(one), read_question(other)))) <= set("ab"))
        self.assertIs(is_alike("ab", read_question(none[0]), read_question(none[1])), True)
        self.assertIs(is_alike("ab", read_question(all_pages[0]), read_question(all_pages[1])), True)

    def test_pages_without_lines_and_with_empty_lines(self):
        for texts, page in ((("~'^$'", "''"), ()), (("''", "'a'"), ("",)), (("'^$'", "'.'"), ("",))):
            one, two = map(read_question, texts)
            self.assertIs(lies_within("a", one, two), False)
            self.assertEqual(page_outside("a", one, two), page)

    def test_pages_of_several_lines(self):
        one, two = read_question("'ab' & 'ba'"), read_question("'ab.*a|ba.*b'")
        self.assertIs(lies_within("ab", one, two), False)
        page = page_outside("ab", one, two)
        self.assertTrue(one.meets(page) and not two.meets(page))
        self.assertGreater(len(page), 1)

    def test_four_patterns_over_six_signs(self):
        start = time.perf_counter()
        one, two = read_question("'a.*b' & 'b.*c$'"), read_question("'a.*c$' | ~'^(ab|cd)*e'")
        self.assertIs(lies_within("abcdef", one, two), False)
        self.assertIs(lies_within("abcdef", read_question("'a.*bc.*d'"), read_question("'a.*d' & 'bc' & 'c.*d'")), True)
        self.assertLess(time.perf_counter() - start, 20)


class ArgumentTest(unittest.TestCase):
    def test_wrong_arguments(self):
        for call in (lies_within, page_outside, is_alike):
            check_wrong(self, call, [("ab", NO_SIGNS), (QUESTION, NO_QUESTION), (read_question("'a'"), NO_QUESTION)])

    def test_too_many_patterns(self):
        for texts, number in ((("'a' & 'b' & 'c'", "'d' | 'e'"), 5), (("'a' & 'b' & 'c' & 'd'", "'e'"), 5),
                              (("'a' & 'b' & 'c' & 'd'", "'e' & 'f' & 'a' & 'g' & 'a'"), 7),
                              (("'a' & 'b' & 'c' & 'd'", "'e' & 'f' & 'g' & 'h'"), 8)):
            one, two = map(read_question, texts)
            for call in (lies_within, page_outside, is_alike):
                for pair in ((one, two), (two, one)):
                    with self.assertRaises(BadQuestion) as caught:
                        call("ab", *pair)
                    self.assertIs(type(caught.exception), BadQuestion)
                    self.assertEqual(caught.exception.value, number)
                    self.assertIs(type(caught.exception.value), int)
                # It stands behind all others.
                self.assertRaises(BadSigns, call, "ba", one, two)
                self.assertRaises(BadArgument, call, "ab", one, None)
                self.assertRaises(BadArgument, call, "ab", "'a'", two)
        one, two = read_question("'a' & 'b' & 'c' & 'd'"), read_question("'d' | 'a' | 'b'")
        self.assertIs(lies_within("abcd", one, two), True)

    def test_equal_patterns_count_once(self):
        one = read_question("'ab' & 'b' | 'a' & 'c'")
        for call, told in ((lies_within, True), (page_outside, None), (is_alike, True)):
            self.assertEqual(call("ab", one, read_question(one.show())), told)


if __name__ == "__main__":
    unittest.main()
