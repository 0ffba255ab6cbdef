"""Which texts tell a question, and where the others go wrong (7)."""

import functools
import itertools
import random
import re
import unittest

from surelyhas.errors import BadQuestion, BadText
from surelyhas.questions import Question, read_question
from tests.reckoned import bracketed, drawn_tree, question_of
from tests.test_reading import is_right


@functools.lru_cache(maxsize=None)
def is_whole(signs):
    """Whether signs are a question; p stands for each pattern."""
    before = None
    while before != signs:
        before = signs
        signs = re.sub(r"~p|p[&|]p|\(p\)", "p", signs)
    return signs == "p"


@functools.lru_cache(maxsize=None)
def can_go_on(signs):
    return any(is_whole(signs + more + ")" * many) for more in ("", "p") for many in range(len(signs) + 1))


def signs_of(text):
    """A list of (sign, index): p for a pattern in quotes, q for what is none, o for an open quote, others themselves."""
    told = []
    at = 0
    while at < len(text):
        if text[at] == "'":
            end = text.find("'", at + 1)
            inner = text[at + 1:end]
            sign = "o" if end < 0 else "p" if is_right(inner) else "q"
            told.append((sign, at))
            at = len(text) if end < 0 else end + 1
        else:
            if text[at] != " ":
                told.append((text[at], at))
            at += 1
    return told


def first_wrong(text):
    """The index that BadText tells, None if there is no fault."""
    before = ""
    for sign, at in signs_of(text):
        if not can_go_on(before + ("p" if sign in "qo" else sign)):
            return at
        if sign == "q":
            return at + 1
        if sign == "o":
            return len(text)
        before += sign
    return None if is_whole(before) else len(text)


def told_index(text):
    """The index that read_question tells, None if there is no error."""
    try:
        read_question(text)
    except BadText as error:
        return error.at
    except BadQuestion:
        return None
    return None


class RightTextTest(unittest.TestCase):
    def test_some_texts(self):
        told = {"'a'": "a", "''": "", "('a')": "a", "~'a'": ("~", "a"), "'a'&'b'": ("&", "a", "b"),
                "'a'|'b'": ("|", "a", "b"), "'a'&'b'|'c'": ("|", ("&", "a", "b"), "c"),
                "'a'|'b'&'c'": ("|", "a", ("&", "b", "c")), "~'a'&'b'": ("&", ("~", "a"), "b"),
                "~('a'&'b')": ("~", ("&", "a", "b")), "'a'&'b'&'c'": ("&", ("&", "a", "b"), "c"),
                "'a'|'b'|'c'": ("|", ("|", "a", "b"), "c"), "'a'&('b'&'c')": ("&", "a", ("&", "b", "c")),
                "(('a')|('b'))&'c'": ("&", ("|", "a", "b"), "c"), "~~'a'|~'b'": ("|", ("~", ("~", "a")), ("~", "b")),
                "'a|b'|'^(a)$'": ("|", "a|b", "^(a)$"), "~'a'|'b'&~('c'|'a')": ("|", ("~", "a"), ("&", "b", ("~", (
                    "|", "c", "a")))), "'a'&'b'|'c'&'d'": ("|", ("&", "a", "b"), ("&", "c", "d"))}
        for text, tree in told.items():
            one = read_question(text)
            self.assertIs(type(one), Question)
            self.assertEqual(one, question_of(tree), text)

    def test_spaces_and_brackets_anywhere(self):
        chooser = random.Random(17)
        for _ in range(600):
            tree = drawn_tree(chooser, [chooser.choice(("a", "^b|c", "", "[ab]*$")) for _ in range(chooser.randrange(1, 7))])
            for text in (question_of(tree).show(), bracketed(tree)):
                parts = re.findall("'[^']*'|[&|~()]", text)
                spaced = [" " * chooser.choice((0, 0, 1, 3)) + part for part in parts]
                self.assertEqual(read_question("".join(spaced) + " " * chooser.randrange(3)), question_of(tree))
                held = [f"( ({part}) )" if part[0] == "'" and chooser.random() < 0.5 else part for part in spaced]
                self.assertEqual(read_question(f" ( {''.join(held)})"), question_of(tree))

    def test_deep_brackets(self):
        for many in (1, 50, 100):
            self.assertEqual(read_question("(" * many + "'a'" + ")" * many), question_of("a"))
            tree = "a"
            for _ in range(many):
                tree = ("~", ("&", "b", tree))
            self.assertEqual(read_question("~('b'&" * many + "'a'" + ")" * many), question_of(tree))

    def test_spaces_are_not_left_out_within_quotes(self):
        for text, at in {"' a'": 1, "'a '": 1, "'a b'": 1, "' '": 1, "'b' & 'a '": 7}.items():
            self.assertEqual(told_index(text), at)


class WrongTextTest(unittest.TestCase):
    def test_each_kind_of_place(self):
        told = {
            # Texts that end too early.
            "": 0, " ": 1, "   ": 3, "~": 1, "~~ ": 3, "(": 1, "((": 2, "'a' &": 5, "'a' |  ": 7, "('a'": 4, "('a' ": 5,
            "(('a')": 6, "'a' & (": 7, "'a' & ~": 7, "'a' | ('b' & 'c'": 16,
            # Quotes without a second one.
            "'": 1, "'a": 2, "'a & b": 6, "'a' & '": 7, "'a' & 'b": 8, "('a": 3, "'A": 2, "~'*": 3, "'a' | ' b ": 10,
            # Brackets that are open or superfluous.
            ")": 0, "'a')": 3, "('a'))": 5, "()": 1, "( )": 2, "'a' & ()": 7, "~)": 1, "'a' &)": 5, "('a' &)": 6,
            "('a'|)": 5, "'a' (": 4, "'a'('b')": 3, "('a')('b')": 5,
            # Patterns that are none.
            "'*'": 1, "'A'": 1, "'aB'": 1, "'('": 1, "'a' & 'b)'": 7, "'a' | ~('[]')": 9, "'abcdefghijklm'": 1,
            "'" + "|" * 41 + "'": 1, "'\n'": 1,
            # Signs at which no question can go on.
            "a": 0, "'a' 'b'": 4, "'a''b'": 3, "'a'~'b'": 3, "'a' ~ & 'b'": 4, "&": 0, "|'a'": 0, "'a' & & 'b'": 6,
            "'a' && 'b'": 5, "'a' || 'b'": 5, "'a' & | 'b'": 6, "'a' and 'b'": 4, "not 'a'": 0, "'a'\n": 3, "\t'a'": 0,
            "'a' & b": 6, "\"a\"": 0, "~&'a'": 1, "'a', 'b'": 3, "'a' \u00e4": 4, "'a'\x00": 3, "[": 0,
        }
        for text, at in told.items():
            self.assertEqual(told_index(text), at, text)

    def test_the_first_of_several_faults(self):
        told = {"'*' )": 1, ") '*'": 0, "'a' ) 'A'": 4, "'A' & 'B'": 1, "'a' & 'B' & )": 7, "('a' & ": 7, "('*'": 2,
                "'a' 'b": 4, "'a' & 'b' 'c": 10, "~'a' x (": 5, "('a' & 'b' | 'C' & (": 14, "'*' & 'a": 1}
        for text, at in told.items():
            self.assertEqual(told_index(text), at, text)

    def test_every_short_text(self):
        for many in range(6):
            for signs in itertools.product("'a*&~() ", repeat=many):
                text = "".join(signs)
                self.assertEqual(told_index(text), first_wrong(text), text)

    def test_every_short_row_of_parts(self):
        for many in range(5):
            for parts in itertools.product(("'a'", "''", "'A'", "&", "|", "~", "(", ")", " ", "x", "'"), repeat=many):
                text = "".join(parts)
                self.assertEqual(told_index(text), first_wrong(text), text)

    def test_right_texts_with_one_character_more_or_less(self):
        chooser = random.Random(27)
        for _ in range(120):
            text = question_of(drawn_tree(chooser, [chooser.choice("abc") for _ in range(chooser.randrange(2, 7))])).show()
            for at in range(len(text) + 1):
                for more in ("", "'", "(", ")", "&", "~", "a", "A", " "):
                    changed = text[:at] + more + text[at + (more == ""):]
                    self.assertEqual(told_index(changed), first_wrong(changed), changed)

    def test_no_text(self):
        for value in (None, 0, 1, True, False, 1.5, b"", b"'a'", [], ["'a'"], (), ("'a'",), {}, {"'a'": 1}, {"'a'"},
                      object(), str, question_of("a")):
            with self.subTest(value=value):
                with self.assertRaises(BadText) as caught:
                    read_question(value)
                self.assertIsNone(caught.exception.at)


class ManyPatternsTest(unittest.TestCase):
    def check(self, text, number):
        with self.assertRaises(BadQuestion) as caught:
            read_question(text)
        self.assertEqual(caught.exception.value, number)

    def test_four_patterns_and_more(self):
        for number in range(1, 5):
            texts = [f"'{'a' * many}'" for many in range(number)]
            for sign in "&|":
                self.assertEqual(len(read_question(sign.join(texts * 3)).patterns), number)
        for number in range(5, 12):
            texts = [f"'{'a' * many}'" for many in range(number)]
            for sign in "&|":
                self.check(sign.join(texts), number)
                self.check(sign.join(texts * 3), number)
                self.check(f"~({sign.join(texts)}){sign}'a'", number)

    def test_patterns_are_different_if_their_texts_are(self):
        self.check("'a'|'(a)'|'((a))'|'a|a'|'^a'", 5)
        self.assertEqual(len(read_question("'a'|'(a)'|'((a))'|'a|a'|'a'").patterns), 4)

    def test_other_faults_come_first(self):
        five = "'a'|'b'|'c'|'d'|'e'"
        told = {five + ")": 19, five + "|": 20, "(" + five: 20, five + "|'*'": 21, five + "|'f": 22, five + "x": 19,
                five + " 'f'": 20}
        for text, at in told.items():
            self.assertEqual(told_index(text), at, text)


if __name__ == "__main__":
    unittest.main()
