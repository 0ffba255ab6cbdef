"""Questions: how they are joined, written, compared and met (7)."""

import itertools
import random
import re
import unittest

from surelyhas.errors import BadArgument, BadPage, BadPieces, BadQuestion
from surelyhas.families import Family
from surelyhas.patterns import Pattern
from surelyhas.questions import Question, read_question
from tests.reckoned import (all_trees, all_tuples, bracketed, drawn_tree, had_by, is_met, lines_over, patterns_of,
                            question_of)

LEAVES = (["a"], ["a", "a"], ["a", "b"], ["a", "b", "a"], ["b", "a", "c"], ["a", "b", "b", "a"])
OTHERS = (None, 0, 1, True, False, "", "a", "'a'", b"a", [], ["a"], (), ("a",), {}, {"a": 1}, {"a"}, object(), str,
          Question, Pattern, Family("ab", ["a"]))


def small_trees():
    return [tree for leaves in LEAVES for tree in all_trees(leaves)]


def drawn_trees(many):
    chooser = random.Random(7)
    texts = ("a", "b|c", "^a*$", "")
    return [drawn_tree(chooser, [chooser.choice(texts) for _ in range(chooser.randrange(1, 9))]) for _ in range(many)]


def deep_row(sign, many, from_left):
    tree = "a"
    for at in range(many):
        tree = (sign, tree, "b" if at % 2 else "c") if from_left else (sign, "b" if at % 2 else "c", tree)
    return tree


def without_brackets(text):
    """All texts that arise from one by leaving out a pair of brackets."""
    told = []
    opened = []
    in_pattern = False
    for at, sign in enumerate(text):
        if sign == "'":
            in_pattern = not in_pattern
        elif sign == "(" and not in_pattern:
            opened.append(at)
        elif sign == ")" and not in_pattern:
            start = opened.pop()
            told.append(text[:start] + text[start + 1:at] + text[at + 1:])
    return told


class JoinTest(unittest.TestCase):
    def test_a_pattern_alone(self):
        for text in ("", "a", "^a|b$", "(a)*", "a" * 12):
            one = Question(Pattern(text))
            self.assertIs(type(one), Question)
            self.assertEqual((one.show(), one.patterns), (f"'{text}'", [Pattern(text)]))

    def test_patterns_in_the_order_in_which_they_first_stand(self):
        for tree in (*small_trees(), *drawn_trees(300)):
            one = question_of(tree)
            self.assertIs(type(one), Question)
            self.assertEqual([pattern.text for pattern in one.patterns], patterns_of(tree))
            self.assertTrue(all(type(pattern) is Pattern for pattern in one.patterns))

    def test_joined_questions_stay_as_they_were(self):
        one, two = Question(Pattern("a")), Question(Pattern("b"))
        told = [one & two, one | two, ~one, two & one, one & one]
        self.assertEqual([question.show() for question in (one, two, *told)],
                         ["'a'", "'b'", "'a' & 'b'", "'a' | 'b'", "~'a'", "'b' & 'a'", "'a' & 'a'"])

    def test_four_patterns(self):
        for texts in itertools.permutations("abcd"):
            for tree in all_trees(list(texts))[::37]:
                self.assertEqual([pattern.text for pattern in question_of(tree).patterns], list(texts))
        one = question_of(("&", ("|", "a", "b"), ("|", "c", "d")))
        for other in (one, ~one, question_of("d"), question_of(("&", "c", ("~", "a")))):
            self.assertEqual(len((one & other).patterns), 4)
            self.assertEqual(len((other | one).patterns), 4)

    def test_too_many_patterns(self):
        four = question_of(("&", ("|", "a", "b"), ("|", "c", "d")))
        three = question_of(("&", "a", ("|", "e", "f")))
        for one, other, number in ((four, question_of("e"), 5), (question_of("e"), four, 5), (four, three, 6),
                                   (three, four, 6), (four, question_of(("|", ("|", "e", "f"), ("&", "g", "h"))), 8),
                                   (four, question_of("(a)"), 5), (three, question_of(("|", "b", "^a")), 5)):
            for join in (lambda: one & other, lambda: one | other):
                with self.assertRaises(BadQuestion) as caught:
                    join()
                self.assertEqual(caught.exception.value, number)
        self.assertEqual(four.show(), "('a' | 'b') & ('c' | 'd')")
        self.assertEqual(three.show(), "'a' & ('e' | 'f')")
        self.assertEqual((~four).show(), "~(('a' | 'b') & ('c' | 'd'))")

    def test_other_values(self):
        one = question_of(("&", "a", "b"))
        for value in (*OTHERS, Pattern("a")):
            for join in (lambda: one & value, lambda: one | value):
                with self.subTest(value=value):
                    with self.assertRaises(BadArgument) as caught:
                        join()
                    self.assertIs(caught.exception.value, value)
            self.assertEqual(one.show(), "'a' & 'b'")

    def test_no_pattern(self):
        for value in (*OTHERS, question_of("a")):
            with self.subTest(value=value):
                with self.assertRaises(BadArgument) as caught:
                    Question(value)
                self.assertIs(caught.exception.value, value)


class ShowTest(unittest.TestCase):
    def test_some_texts(self):
        told = {
            ("&", ("&", "a", "b"), "c"): "'a' & 'b' & 'c'", ("&", "a", ("&", "b", "c")): "'a' & ('b' & 'c')",
            ("|", ("|", "a", "b"), "c"): "'a' | 'b' | 'c'", ("|", "a", ("|", "b", "c")): "'a' | ('b' | 'c')",
            ("|", ("&", "a", "b"), "c"): "'a' & 'b' | 'c'", ("|", "a", ("&", "b", "c")): "'a' | 'b' & 'c'",
            ("&", ("|", "a", "b"), "c"): "('a' | 'b') & 'c'", ("&", "a", ("|", "b", "c")): "'a' & ('b' | 'c')",
            ("~", "a"): "~'a'", ("~", ("~", "a")): "~~'a'", ("~", ("&", "a", "b")): "~('a' & 'b')",
            ("~", ("|", "a", "b")): "~('a' | 'b')", ("&", ("~", "a"), "b"): "~'a' & 'b'",
            ("|", "a", ("~", "b")): "'a' | ~'b'", ("~", ("~", ("|", "a", "b"))): "~~('a' | 'b')",
            ("&", ("~", ("&", "a", "b")), ("~", ("~", "c"))): "~('a' & 'b') & ~~'c'",
            ("|", ("|", "a", ("|", "b", "c")), "d"): "'a' | ('b' | 'c') | 'd'",
            ("&", ("&", "a", ("~", "a")), ("&", "b", "a")): "'a' & ~'a' & ('b' & 'a')",
            ("|", "(a|b)", ("&", "^", "$")): "'(a|b)' | '^' & '$'",
        }
        for tree, text in told.items():
            self.assertEqual(question_of(tree).show(), text)

    def test_read_back(self):
        for tree in (*small_trees(), *drawn_trees(600)):
            one = question_of(tree)
            self.assertEqual(read_question(one.show()), one)
            self.assertEqual(read_question(bracketed(tree)), one)
            self.assertEqual(read_question(bracketed(tree)).show(), one.show())

    def test_rows(self):
        for sign in "&|":
            for many in range(1, 101):
                parts = ["a", *["b" if at % 2 else "c" for at in range(many)]]
                one = question_of(deep_row(sign, many, True))
                self.assertEqual(one.show(), f" {sign} ".join(f"'{part}'" for part in parts))
                self.assertEqual(read_question(one.show()), one)
                two = question_of(deep_row(sign, many, False))
                self.assertEqual(two.show().count("("), many - 1)
                self.assertEqual(read_question(two.show()), two)
                self.assertNotEqual(one, two)

    def test_a_hundred_times_not(self):
        one = question_of("a")
        for many in range(101):
            self.assertEqual(one.show(), "~" * many + "'a'")
            self.assertEqual(read_question(one.show()), one)
            self.assertIs(one.holds((0,)), many % 2 == 0)
            one = ~one

    def test_no_bracket_is_superfluous(self):
        for tree in (*small_trees(), *drawn_trees(300)):
            one = question_of(tree)
            for text in without_brackets(one.show()):
                self.assertNotEqual(read_question(text), one, text)

    def test_spaces(self):
        for tree in (*small_trees(), *drawn_trees(300)):
            text = question_of(tree).show()
            self.assertEqual(re.sub(" ([&|]) ", "\\1", re.sub("'[^']*'", "''", text)).count(" "), 0)
            self.assertEqual(len(re.findall("(?:' |\\) )[&|](?: '| \\(| ~)", text)), len(re.findall(" [&|] ", text)))
            self.assertEqual(text.count(" "), 2 * len(re.findall(" [&|] ", text)))


class EqualTest(unittest.TestCase):
    def test_exactly_where_joined_alike_of_the_same_patterns(self):
        trees = [tree for leaves in (["a"], ["b"], ["a", "a"], ["a", "b"], ["b", "a"], ["a", "b", "a"])
                 for tree in all_trees(leaves)]
        made = [question_of(tree) for tree in trees]
        again = [question_of(tree) for tree in trees]
        for one, first in zip(trees, made):
            for two, second in zip(trees, again):
                self.assertIs(first == second, one == two)
                self.assertIs(first != second, one != two)

    def test_patterns_are_compared_by_text(self):
        for one, two in (("a", "(a)"), ("[ab]", "[ba]"), ("a|b", "b|a"), ("a", "^a"), ("a*", "a**")):
            self.assertNotEqual(question_of(one), question_of(two))
            self.assertNotEqual(question_of(("&", one, "c")), question_of(("&", two, "c")))
            self.assertEqual(question_of(("&", one, "c")), question_of(("&", one, "c")))

    def test_the_same_worlds_are_not_enough(self):
        for one, two in ((("&", "a", "b"), ("&", "b", "a")), ("a", ("~", ("~", "a"))), ("a", ("&", "a", "a")),
                         (("&", "a", "a"), ("|", "a", "a")), (("&", ("&", "a", "b"), "c"), ("&", "a", ("&", "b", "c")))):
            self.assertNotEqual(question_of(one), question_of(two))

    def test_other_classes(self):
        one = question_of("a")
        for value in (*OTHERS, Pattern("a"), one.show(), [one], (0,)):
            self.assertIs(one == value, False)
            self.assertIs(value == one, False)
            self.assertIs(one != value, True)

    def test_no_hash(self):
        for tree in ("a", ("~", "a"), ("&", "a", "b")):
            with self.assertRaises(TypeError):
                hash(question_of(tree))


class MetTest(unittest.TestCase):
    def test_holds_for_all_worlds(self):
        for tree in (*small_trees(), *drawn_trees(200)):
            one = question_of(tree)
            texts = patterns_of(tree)
            for world in all_tuples(len(texts)):
                self.assertIs(one.holds(world), is_met(tree, [texts[number] for number in world]), (tree, world))

    def test_tuples_that_are_no_worlds(self):
        for tree, many in (("a", 1), (("&", "a", "b"), 2), (("|", ("|", "a", "b"), ("~", ("&", "c", "d"))), 4)):
            one = question_of(tree)
            for value in (None, 0, True, "", "0", [], [0], {}, {0}, {0: 1}, range(1), object(), (True,), (False,),
                          (0, True), (0, 0), (many - 1, many - 1), (1, 0), (many,), (0, many), (-1,), (-1, 0), (0.0,),
                          ("0",), (None,), ((0,),), (10 ** 20,), (0, 1, 2, 3, 4)):
                with self.subTest(tree=tree, value=value):
                    with self.assertRaises(BadPieces) as caught:
                        one.holds(value)
                    self.assertIs(caught.exception.value, value)
            self.assertIsInstance(one.holds(tuple(range(many))), bool)

    def test_meets_for_many_pages(self):
        lines = lines_over("ab", 3)
        pages = [(), *[(line,) for line in lines], *itertools.product(lines[:7], repeat=2), ("xyz", "", "abab")]
        for tree in (*all_trees(["ab", "a$", "^b"]), *all_trees(["^", "aa|b"]), *all_trees(["^$"]),
                     *drawn_trees(60)):
            one = question_of(tree)
            for page in pages:
                self.assertIs(one.meets(page), is_met(tree, had_by(page, patterns_of(tree))), (tree, page))

    def test_no_lines(self):
        self.assertIs(question_of("").meets(()), False)
        self.assertIs(question_of("").meets(("",)), True)
        self.assertIs(question_of(("~", "")).meets(()), True)

    def test_patterns_in_several_lines(self):
        one = question_of(("&", "a", ("&", "b", ("~", "ab"))))
        self.assertIs(one.meets(("a", "b")), True)
        self.assertIs(one.meets(("ba",)), True)
        self.assertIs(one.meets(("ab", "b")), False)
        self.assertIs(one.meets(("a", "a")), False)

    def test_no_pages(self):
        one = question_of(("|", "a", "b"))
        for value in (None, 0, "", "a", "=a", [], ["a"], ("A",), ("a", 1), (None,), ("a", ("b",)), (b"a",), {}, object(),
                      ("a", "b "), (True,)):
            with self.subTest(value=value):
                with self.assertRaises(BadPage) as caught:
                    one.meets(value)
                self.assertIs(caught.exception.value, value)


if __name__ == "__main__":
    unittest.main()
