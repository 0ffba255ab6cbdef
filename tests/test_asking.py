"""Trees of asking and stubborn answers against all trees and checkers of the tests' own (12)."""

import functools
import itertools
import random
import time
import unittest
from unittest import mock

from surelyhas.asking import asking_tree, check_stubborn, check_tree, least_depth, stubborn_answers
from surelyhas.errors import BadArgument, LimitExceeded
from surelyhas.families import Family
from surelyhas.questions import read_question
from surelyhas.worlds import had_sets, worlds
from tests.cases import drawn_cases, drawn_questions
from tests.reckoned import lines_over, question_of

ANSWERS = ("surely", "not", "open", "never")
ODD = (None, 0, 1, True, False, "", "Surely", "two", b"not", (), [], {}, {"a"}, 1.5, object(), ("surely",), ["not"],
       ("a", "not"), ("a", "not", "surely", "not"), ["a", "not", "surely"], ("two", [], []), {"a": "not"})


class Answers:
    """The answers to all found that can be had, by the worlds."""

    def __init__(self, family, question):
        self.pieces = family.pieces
        self.found = {frozenset(found): self.answer(worlds(family, found, question), question)
                      for found in had_sets(family)}

    def answer(self, told, question):
        met = [question.holds(world) for world in told]
        return "surely" if all(met) else "open" if any(met) else "not"

    def agreeing(self, told):
        return [found for found in self.found if all((piece in found) == truth for piece, truth in told.items())]

    def depth(self, told):
        """The least depth of a right tree, piece by piece."""
        if len({self.found[found] for found in self.agreeing(told)}) <= 1:
            return 0
        return 1 + min(max(self.depth({**told, piece: truth}) for truth in (False, True))
                       for piece in self.pieces if piece not in told)

    def is_right(self, value, told):
        """Whether any value is a right tree, by the words of point 12."""
        if type(value) is tuple and len(value) == 3:
            piece, without, within = value
            if type(piece) is not str or piece not in self.pieces or piece in told:
                return False
            return self.is_right(without, {**told, piece: False}) and self.is_right(within, {**told, piece: True})
        if type(value) is not str or value not in ANSWERS:
            return False
        return all(self.found[found] == value for found in self.agreeing(told))

    def is_stubborn(self, value, depth, told):
        """Whether any value is right stubborn answers for any value as the depth, by the words of point 12."""
        if type(depth) is not int or depth < 0:
            return False
        if depth > 0:
            left = [piece for piece in self.pieces if piece not in told]
            if type(value) is not dict or not value or sorted(map(repr, value)) != sorted(map(repr, left)):
                return False
            return all(type(value[piece]) is tuple and len(value[piece]) == 2 and type(value[piece][0]) is bool
                       and self.is_stubborn(value[piece][1], depth - 1, {**told, piece: value[piece][0]}) for piece in left)
        if type(value) is not tuple or len(value) != 3 or type(value[0]) is not str or value[0] != "two":
            return False
        for found in value[1:]:
            if type(found) is not list or any(type(piece) is not str for piece in found):
                return False
            if len(set(found)) != len(found) or frozenset(found) not in self.agreeing(told):
                return False
        return self.found[frozenset(value[1])] != self.found[frozenset(value[2])]

    def drawn_tree(self, chooser, told):
        """A tree that is right as often as not."""
        left = [piece for piece in self.pieces if piece not in told]
        answers = sorted({self.found[found] for found in self.agreeing(told)})
        if not left or (len(answers) < 2 and chooser.random() < 0.7) or chooser.random() < 0.02:
            return answers[0] if answers and chooser.random() < 0.97 else chooser.choice(ANSWERS)
        piece = chooser.choice(left if chooser.random() < 0.98 else self.pieces)
        return piece, *[self.drawn_tree(chooser, {**told, piece: truth}) for truth in (False, True)]

    def drawn_stubborn(self, chooser, depth, told):
        """Right stubborn answers for a depth, drawn among all, None if there are none."""
        agreeing = self.agreeing(told)
        if depth == 0:
            pairs = [(one, two) for one in agreeing for two in agreeing if self.found[one] != self.found[two]]
            if not pairs:
                return None
            return "two", *[chooser.sample(sorted(found), len(found)) for found in chooser.choice(pairs)]
        value = {}
        left = [piece for piece in self.pieces if piece not in told]
        for piece in chooser.sample(left, len(left)):
            ways = [(truth, self.drawn_stubborn(chooser, depth - 1, {**told, piece: truth})) for truth in (False, True)]
            ways = [way for way in ways if way[1] is not None]
            if not ways:
                return None
            value[piece] = chooser.choice(ways)
        return value or None


def depth_of(tree):
    return 0 if isinstance(tree, str) else 1 + max(depth_of(tree[1]), depth_of(tree[2]))


@functools.lru_cache(maxsize=None)
def all_trees(pieces):
    """All trees that ask for no piece twice on a way."""
    told = list(ANSWERS)
    for at, piece in enumerate(pieces):
        rest = all_trees(pieces[:at] + pieces[at + 1:])
        told += [(piece, without, within) for without in rest for within in rest]
    return told


def cases(seed, many, most_pieces=4, most=4):
    for family, tree, _ in drawn_cases(seed, many, most):
        if len(family.pieces) <= most_pieces:
            yield family, question_of(tree)


def large_cases(seed, many):
    """Families of five and six pieces, with questions that hang on them."""
    chooser = random.Random(seed)
    for tree in drawn_questions(seed, many, 3):
        words = [line for line in lines_over("ab" if chooser.random() < 0.5 else "abc", 3) if line]
        yield Family("abc", chooser.sample(words, chooser.choice((5, 6)))), question_of(tree)


def parts_of(value):
    """Ways to all values within nested tuples, lists and dicts, each way a tuple of keys."""
    yield ()
    if isinstance(value, dict):
        rows = value.items()
    elif isinstance(value, (tuple, list)):
        rows = enumerate(value)
    else:
        return
    for key, one in rows:
        for way in parts_of(one):
            yield (key, *way)


def part_at(value, way):
    for key in way:
        value = value[key]
    return value


def replaced(value, way, other):
    """A value with another one at the end of a way."""
    if not way:
        return other
    if isinstance(value, dict):
        return {key: replaced(one, way[1:], other) if key == way[0] else one for key, one in value.items()}
    rows = [replaced(one, way[1:], other) if at == way[0] else one for at, one in enumerate(value)]
    return tuple(rows) if isinstance(value, tuple) else rows


class TreeTest(unittest.TestCase):
    def test_against_all_trees(self):
        chooser = random.Random(14)
        seen = set()
        for family, question in cases(14, 150, 2):
            answers = Answers(family, question)
            trees = all_trees(tuple(family.pieces))
            right = [tree for tree in trees if answers.is_right(tree, {})]
            for tree in [*chooser.sample(trees, min(20, len(trees))), *chooser.sample(right, min(5, len(right)))]:
                self.assertIs(check_tree(family, question, tree), tree in right, tree)
            least = min(map(depth_of, right))
            self.assertEqual(least_depth(family, question), least)
            tree = asking_tree(family, question)
            self.assertIn(tree, right)
            self.assertEqual(depth_of(tree), least)
            seen.add((len(family.pieces), least))
        self.assertTrue({(0, 0), (1, 0), (1, 1), (2, 0), (2, 1), (2, 2)} <= seen, seen)

    def test_larger_families(self):
        seen = set()
        for family, question in itertools.chain(cases(24, 120), large_cases(24, 60)):
            answers = Answers(family, question)
            tree = asking_tree(family, question)
            least = least_depth(family, question)
            self.assertIs(type(least), int)
            self.assertEqual(least, answers.depth({}))
            self.assertEqual(depth_of(tree), least)
            self.assertTrue(answers.is_right(tree, {}))
            self.assertIs(check_tree(family, question, tree), True)
            seen.add(least)
        self.assertTrue({0, 1, 2, 3, 4, 5} <= seen, seen)

    def test_drawn_trees(self):
        chooser = random.Random(34)
        seen = {True: 0, False: 0}
        for family, question in itertools.chain(cases(34, 60), large_cases(34, 12)):
            answers = Answers(family, question)
            for _ in range(15):
                tree = answers.drawn_tree(chooser, {})
                right = answers.is_right(tree, {})
                seen[right] += 1
                self.assertIs(check_tree(family, question, tree), right, tree)
        self.assertGreater(min(seen.values()), 60)

    def test_trees_with_another_part(self):
        chooser = random.Random(44)
        seen = {True: 0, False: 0}
        for family, question in itertools.chain(cases(44, 50), large_cases(44, 6)):
            answers = Answers(family, question)
            tree = answers.drawn_tree(chooser, {})
            ways = list(parts_of(tree))
            for way in chooser.sample(ways, min(5, len(ways))):
                part = part_at(tree, way)
                for other in (*ODD, *ANSWERS, *family.pieces, [part], (part,), tree, ("ab", part, part), ("a", part, part),
                              list(part) if isinstance(part, tuple) else part):
                    value = replaced(tree, way, other)
                    right = answers.is_right(value, {})
                    seen[right] += 1
                    self.assertIs(check_tree(family, question, value), right, value)
        self.assertGreater(min(seen.values()), 300)

    def test_asking_in_any_order(self):
        family, question = Family("ab", ["a", "ab"]), read_question("'ab'")
        for tree, right in ((("ab", "not", "surely"), True), (("a", "not", ("ab", "not", "surely")), True),
                            (("ab", ("a", "not", "not"), ("a", "never", "surely")), True),
                            (("ab", ("a", "not", "not"), ("a", "surely", "surely")), True),
                            (("ab", "surely", "not"), False), (("a", "not", "surely"), False),
                            (("ab", "not", ("ab", "not", "surely")), False), (("b", "not", "surely"), False),
                            (("ab", "open", "surely"), False), ("not", False), (("ab", "not", "maybe"), False),
                            (("ab", ("a", "not", "not"), ("a", "maybe", "surely")), False)):
            self.assertIs(check_tree(family, question, tree), right, tree)

    def test_only_answers(self):
        for text, answer in (("'z'", "not"), ("~'z'", "surely"), ("'bb'", "open"), ("''", "open")):
            family, question = Family("ab", ["a", "ab"]), read_question(text)
            if text == "''":
                # With a piece there is a line.
                self.assertEqual(asking_tree(family, question), ("a", "open", "surely"))
                continue
            self.assertEqual((asking_tree(family, question), least_depth(family, question)), (answer, 0))
            for other in ANSWERS:
                self.assertIs(check_tree(family, question, other), other == answer)


class StubbornTest(unittest.TestCase):
    def test_right_ones(self):
        seen = set()
        for family, question in itertools.chain(cases(15, 120), large_cases(15, 25)):
            answers = Answers(family, question)
            least = least_depth(family, question)
            value = stubborn_answers(family, question)
            seen.add(least)
            self.assertEqual(value is None, least == 0)
            if least > 0:
                self.assertTrue(answers.is_stubborn(value, least - 1, {}), value)
            for depth in range(-1, 9):
                right = least > 0 and depth == least - 1
                self.assertIs(check_stubborn(family, question, depth, value), right)
        self.assertTrue({0, 1, 2, 3, 4, 5} <= seen, seen)

    def test_other_depths(self):
        family, question = Family("ab", ["a", "b"]), read_question("'a' & 'b' & 'aa'")
        value = stubborn_answers(family, question)
        self.assertEqual(least_depth(family, question), 2)
        self.assertIs(check_stubborn(family, question, 1, value), True)
        for depth in (True, False, None, 0, 2, -1, 10 ** 30, -10 ** 30, "1", "", 1.0, [1], (1,), {}, {1: 1}, b"1", object()):
            self.assertIs(check_stubborn(family, question, depth, value), False)
        one = Family("ab", ["a"])
        self.assertIs(check_stubborn(one, question, 0, ("two", [], ["a"])), True)
        self.assertIs(check_stubborn(one, question, False, ("two", [], ["a"])), False)

    def test_of_other_makers(self):
        chooser = random.Random(25)
        made = 0
        for family, question in itertools.chain(cases(25, 90), large_cases(25, 8)):
            answers = Answers(family, question)
            for depth in range(4):
                value = answers.drawn_stubborn(chooser, depth, {})
                self.assertEqual(value is None, depth >= answers.depth({}))
                if value is not None:
                    made += 1
                    self.assertTrue(answers.is_stubborn(value, depth, {}))
                self.assertIs(check_stubborn(family, question, depth, value), value is not None)
        self.assertGreater(made, 40)

    def test_put_otherwise(self):
        chooser = random.Random(35)
        seen = {True: 0, False: 0}
        for family, question in itertools.chain(cases(35, 120), large_cases(35, 6)):
            answers = Answers(family, question)
            least = answers.depth({})
            value = stubborn_answers(family, question) if chooser.random() < 0.5 else None
            value = value or answers.drawn_stubborn(chooser, max(least - 1, 0), {}) or ("two", [], [])
            ways = list(parts_of(value))
            for way in chooser.sample(ways, min(8, len(ways))):
                part = part_at(value, way)
                others = [*ODD, [part], (part,), {"a": part}, value, list(family.pieces), family.pieces[:1]]
                if isinstance(part, dict):
                    key = chooser.choice(list(part))
                    others += [{one: part[one] for one in part if one != key}, {**part, "zz": part[key]}, {**part, 1: 1},
                               {("zz" if one == key else one): part[one] for one in part},
                               {(None if one == key else one): part[one] for one in part},
                               dict(reversed(list(part.items()))), list(part.items()), tuple(part.items())]
                elif isinstance(part, list):
                    others += [part[::-1], part + part, tuple(part), part + ["zz"], part[1:], part + [1], set(part)]
                elif isinstance(part, tuple):
                    others += [part[::-1], list(part), part[:-1], (*part, 1), (part[0], *part[:0:-1])]
                else:
                    others += [not part, int(part) if isinstance(part, bool) else part, "one", "Two"]
                for other in chooser.sample(others, 9):
                    told = replaced(value, way, other)
                    for depth in {max(least - 1, 0), 1}:
                        right = answers.is_stubborn(told, depth, {})
                        seen[right] += 1
                        self.assertIs(check_stubborn(family, question, depth, told), right, told)
        self.assertGreater(min(seen.values()), 30)

    def test_other_values(self):
        for family, question in cases(45, 15):
            answers = Answers(family, question)
            for value in ODD:
                for depth in (0, 1, 2, 7, None, True):
                    right = answers.is_stubborn(value, depth, {})
                    self.assertIs(check_stubborn(family, question, depth, value), right)

    def test_a_key_that_is_another_one(self):
        family, question = Family("ab", ["a", "b"]), read_question("'a' & 'b' & 'aa'")
        value = stubborn_answers(family, question)
        self.assertIs(check_stubborn(family, question, 1, value), True)
        for other in ("zz", "ab", None, 0, ("a",)):
            for key in value:
                changed = {(other if one == key else one): value[one] for one in value}
                self.assertIs(check_stubborn(family, question, 1, changed), False)

    def test_values_that_are_equal_to_everything(self):
        family, question = Family("ab", ["a"]), read_question("'a'")
        self.assertIs(check_stubborn(family, question, 0, ("two", [], ["a"])), True)
        for value in (mock.ANY, (mock.ANY, [], ["a"]), ("two", [], [mock.ANY]), ("two", [], mock.ANY)):
            self.assertIs(check_stubborn(family, question, 0, value), False)
        for tree in (mock.ANY, ("a", mock.ANY, "surely"), (mock.ANY, "not", "surely")):
            self.assertIs(check_tree(family, question, tree), False)

    def test_all_pieces_told(self):
        """Where nothing is left to be asked for an empty dict is no stubborn answer."""
        family, question = Family("ab", ["a"]), read_question("'a'")
        self.assertIs(check_stubborn(family, question, 0, ("two", ["a"], [])), True)
        self.assertIs(check_stubborn(family, question, 1, {"a": (True, ("two", ["a"], []))}), False)
        self.assertIs(check_stubborn(family, question, 2, {"a": (True, {})}), False)
        self.assertIs(check_stubborn(Family("ab", []), question, 1, {}), False)

    def test_what_was_returned_may_be_changed(self):
        for family, question in large_cases(55, 6):
            value, again = stubborn_answers(family, question), stubborn_answers(family, question)
            self.assertEqual(value, again)
            if value is None:
                continue
            inner = [part_at(value, way) for way in parts_of(value)] + [part_at(again, way) for way in parts_of(again)]
            kept = [part for part in inner if isinstance(part, (list, dict))]
            self.assertEqual(len({id(part) for part in kept}), len(kept))
            for part in kept[:len(kept) // 2]:
                part.clear()
            self.assertEqual(stubborn_answers(family, question), again)


class ArgumentTest(unittest.TestCase):
    family = Family("ab", ["ab", "b"])
    question = read_question("'a' & 'b'")

    def calls(self, family, question):
        return [lambda: asking_tree(family, question), lambda: least_depth(family, question),
                lambda: stubborn_answers(family, question), lambda: check_tree(family, question, "not"),
                lambda: check_tree(family, question, None), lambda: check_stubborn(family, question, 1, {}),
                lambda: check_stubborn(family, question, None, None)]

    def check(self, error, field, value, calls):
        for call in calls:
            with self.assertRaises(error) as caught:
                call()
            if field == "number":
                self.assertEqual(caught.exception.number, value)
            else:
                self.assertIs(caught.exception.value, value)

    def test_no_family(self):
        for family in (None, 0, True, "ab", ["ab"], self.question, Family):
            for question in (self.question, None, "'a'"):
                self.check(BadArgument, "value", family, self.calls(family, question))

    def test_too_many_pieces(self):
        words = ["a", "b", "ab", "ba", "aa", "bb", "aab", "abb"]
        for number in (7, 8):
            family = Family("ab", words[:number])
            for question in (self.question, None, "'a'", family):
                self.check(LimitExceeded, "number", number, self.calls(family, question))
        self.assertEqual(least_depth(Family("ab", words[:6]), read_question("'a'")), 1)

    def test_no_question(self):
        for question in (None, 0, True, "'a'", ["'a'"], self.family, self.question.patterns[0]):
            self.check(BadArgument, "value", question, self.calls(self.family, question))

    def test_six_pieces_over_six_signs(self):
        family = Family("abcdef", ["ab", "bc", "cd", "de", "abc", "ace"])
        start = time.perf_counter()
        for text in ("'a.*b' & 'b.*c$' | ~'^(ab|cd)*e' & '[abc]d.*f'", "'abc' & ~'ed' | 'cde'", "'abcde' | 'ace' & 'dc'"):
            question = read_question(text)
            tree = asking_tree(family, question)
            self.assertEqual(depth_of(tree), least_depth(family, question))
            self.assertIs(check_tree(family, question, tree), True)
            if depth_of(tree) > 0:
                value = stubborn_answers(family, question)
                self.assertIs(check_stubborn(family, question, depth_of(tree) - 1, value), True)
        self.assertLess(time.perf_counter() - start, 60)


if __name__ == "__main__":
    unittest.main()
