"""Papers of worlds and answers against a checker of the tests' own (10)."""

import random
import unittest
from unittest import mock

from surelyhas.answers import answer_of
from surelyhas.errors import BadArgument, BadPieces
from surelyhas.families import Family
from surelyhas.papers import answer_paper, check_answer, check_world, world_paper
from surelyhas.questions import read_question
from surelyhas.worlds import world_page, worlds
from tests.cases import drawn_cases
from tests.paper_rules import Rules, goals_of, is_right_paper, other_papers
from tests.reckoned import all_tuples, choices_of, had_by, patterns_of, pieces_in, question_of

ODD = (None, 0, 1, True, False, "", "surely", (), ("a",), [], {}, {(): ()}, {(): ("piece", "a", [])}, object(),
       ("piece", "a", []), ("pattern", 0, []), ("piece", "a"), 1.5, b"", {"a"})


def cases(seed, many, most=4):
    """A family, found, a question, the texts of its patterns, and all tuples of their numbers."""
    for family, tree, _ in drawn_cases(seed, many, most):
        texts = patterns_of(tree)
        for found in choices_of(family.pieces):
            yield family, found, question_of(tree), texts, all_tuples(len(texts))


class WorldPaperTest(unittest.TestCase):
    def test_either_a_page_or_a_paper(self):
        papers = 0
        for family, found, question, texts, tuples in cases(10, 200):
            told = worlds(family, found, question)
            for world in tuples:
                paper = world_paper(family, found, question, world)
                self.assertEqual(paper is None, world in told)
                if paper is not None:
                    papers += 1
                    self.assertTrue(is_right_paper(family, found, texts, world, paper), (found, texts, world, paper))
                    self.assertIs(check_world(family, found, question, world, paper), True)
        self.assertGreater(papers, 3000)

    def test_a_world_has_no_paper(self):
        for family, found, question, texts, tuples in cases(20, 60, 3):
            papers = [world_paper(family, found, question, world) for world in tuples]
            for world in worlds(family, found, question):
                for paper in papers:
                    self.assertIs(check_world(family, found, question, world, paper), False)
                for kind, which in goals_of(found, world):
                    rules = Rules(family, found, texts, world, kind, which)
                    states = [rules.at_beginning()] if rules.at_beginning() else []
                    self.assertIs(check_world(family, found, question, world, (kind, which, states)), False)
                    self.assertIs(check_world(family, found, question, world, (kind, which, [])), False)

    def test_almost_papers(self):
        chooser = random.Random(30)
        seen = {True: 0, False: 0}
        for family, found, question, texts, tuples in cases(30, 70, 3):
            for world in tuples:
                paper = world_paper(family, found, question, world)
                if paper is None or chooser.random() < 0.6:
                    continue
                for value in other_papers(paper, chooser):
                    right = is_right_paper(family, found, texts, world, value)
                    seen[right] += 1
                    self.assertIs(check_world(family, found, question, world, value), right, (found, texts, world, value))
        self.assertGreater(min(seen.values()), 5000)

    def test_papers_for_another_tuple(self):
        for family, found, question, texts, tuples in cases(40, 25, 3):
            papers = [world_paper(family, found, question, world) for world in tuples]
            for paper in papers:
                for world in tuples:
                    right = is_right_paper(family, found, texts, world, paper)
                    self.assertIs(check_world(family, found, question, world, paper), right)

    def test_papers_of_other_makers(self):
        """The greatest paper for each goal has all further states that a right one can have."""
        right = 0
        for family, found, question, texts, tuples in cases(50, 160, 2):
            if sum(len(text) for text in texts) > 7 or len(family.signs) > 2:
                continue
            for world in tuples:
                for kind, which in goals_of(found, world):
                    rules = Rules(family, found, texts, world, kind, which)
                    states = sorted(rules.greatest(), key=repr)
                    value = (kind, which, states)
                    told = is_right_paper(family, found, texts, world, value)
                    self.assertIs(check_world(family, found, question, world, value), told)
                    first = rules.at_beginning()
                    self.assertIs(told, first is None or first in states)
                    right += told
                    self.assertLessEqual(told, world not in worlds(family, found, question))
                    without = states[:len(states) // 2] + states[len(states) // 2 + 1:]
                    self.assertIs(check_world(family, found, question, world, (kind, which, without)),
                                  is_right_paper(family, found, texts, world, (kind, which, without)))
        self.assertGreater(right, 200)

    def test_other_values(self):
        for family, found, question, texts, tuples in cases(60, 8, 2):
            for world in tuples:
                for value in ODD:
                    right = is_right_paper(family, found, texts, world, value)
                    self.assertIs(check_world(family, found, question, world, value), right)

    def test_empty_papers(self):
        family = Family("ab", ["a", "ab"])
        told = (("''", ["a"], (), ("piece", "a", []), True), ("'' & 'b'", [], (1,), ("pattern", 1, []), True),
                ("'a*'", ["a"], (), ("piece", "a", []), True), ("'^'", ["a"], (), ("piece", "a", []), True),
                ("'$'", ["a"], (), ("piece", "a", []), False), ("'a'", ["a"], (), ("piece", "a", []), False),
                ("''", ["a"], (0,), ("piece", "a", []), False), ("'' & 'b'", [], (0, 1), ("pattern", 1, []), False),
                ("''", ["a"], (), ("piece", "ab", []), False), ("''", ["a"], (), ("piece", "b", []), False),
                ("'' & 'b'", [], (1,), ("pattern", 0, []), False), ("'' & 'b'", [], (1,), ("pattern", True, []), False),
                ("''", ["a"], (), ("piece", "a", ()), False),
                # Further states may stand where none is wanted, if what follows them stands there too.
                ("'c' & ''", ["a"], (0,), ("piece", "a", [("", ((),), False)]), True),
                ("'c' & ''", ["a"], (0,), ("piece", "a", [("", ((),), True)]), False),
                ("'c' & '^a'", ["a", "ab"], (), ("piece", "a", [("", ((0,), (0,)), False)]), False))
        for text, found, world, value, right in told:
            question = read_question(text)
            self.assertIs(check_world(family, found, question, world, value), right, (text, world, value))

    def test_values_that_are_equal_to_everything(self):
        family, question = Family("ab", ["a"]), read_question("'a'")
        kind, which, states = world_paper(family, ["a"], question, ())
        window, outside, goal = states[0]
        self.assertIs(check_world(family, ["a"], question, (), (kind, which, [*states, states[0]])), True)
        for value in (mock.ANY, (mock.ANY, which, states), (kind, mock.ANY, states), (kind, which, mock.ANY),
                      (kind, which, [*states, mock.ANY]), (kind, which, [*states, (mock.ANY, outside, goal)]),
                      (kind, which, [*states, (window, mock.ANY, goal)]), (kind, which, [*states, (window, outside, mock.ANY)]),
                      (kind, which, [*states, (window, (mock.ANY,), goal)]), (kind, which, [*states, (window, ((mock.ANY,),), goal)])):
            self.assertIs(check_world(family, ["a"], question, (), value), False)

    def test_a_piece_counts_only_where_it_ends(self):
        """What stands in the window of a further state does not count once more."""
        family = Family("a", ["a", "aaa"])
        question = read_question("'a'")
        paper = world_paper(family, ["a"], question, ())
        self.assertEqual(paper[:2], ("piece", "a"))
        self.assertEqual(paper[2], [("", ((0,),), False)])
        for states, right in (([("a", ((0,),), False)], True), ([("aa", ((0,),), False)], True),
                              ([("aa", ((),), False)], True), ([("aa", ((0, 1),), False)], False),
                              ([("a", ((),), True)], False)):
            self.assertIs(check_world(family, ["a"], question, (), ("piece", "a", [*paper[2], *states])), right)

    def test_every_list_is_new(self):
        family, question = Family("ab", ["ab", "b"]), read_question("'a' | 'ab$'")
        one = world_paper(family, ["b"], question, (0, 1))
        two = world_paper(family, ["b"], question, (0, 1))
        self.assertEqual(one, two)
        one[2].clear()
        self.assertEqual(world_paper(family, ["b"], question, (0, 1)), two)
        before = repr(two)
        self.assertIs(check_world(family, ["b"], question, (0, 1), two), True)
        self.assertEqual(repr(two), before)


class AnswerPaperTest(unittest.TestCase):
    def is_right(self, family, found, tree, told, value):
        """Whether any value is a paper of an answer, and any value as told the answer, by the words of point 10."""
        texts = patterns_of(tree)
        tuples = all_tuples(len(texts))
        if type(value) is not dict or sorted(map(repr, value)) != sorted(map(repr, tuples)):
            return False
        met = []
        for world in tuples:
            one = value[world]
            if type(one) is tuple and all(type(line) is str and set(line) <= set(family.signs) for line in one):
                if (sorted(pieces_in(one, family.pieces)) != sorted(found)
                        or had_by(one, texts) != [texts[number] for number in world]):
                    return False
                met.append(question_of(tree).holds(world))
            elif not is_right_paper(family, found, texts, world, one):
                return False
        answer = "never" if not met else "surely" if all(met) else "open" if any(met) else "not"
        return type(told) is str and told == answer

    def cases(self, seed, many, most=4):
        for family, tree, _ in drawn_cases(seed, many, most):
            for found in choices_of(family.pieces):
                yield family, found, tree, question_of(tree)

    def test_papers_are_right(self):
        seen = []
        for family, found, tree, question in self.cases(11, 120):
            paper = answer_paper(family, found, question)
            answer = answer_of(family, found, question)
            seen.append(answer)
            self.assertTrue(self.is_right(family, found, tree, answer, paper))
            for told in ("surely", "not", "open", "never"):
                self.assertIs(check_answer(family, found, question, told, paper), told == answer)
        for told in ("surely", "not", "open", "never"):
            self.assertGreater(seen.count(told), 15)

    def test_told_that_is_another_value(self):
        for family, found, _, question in self.cases(21, 4):
            paper = answer_paper(family, found, question)
            for told in (None, 0, 1, True, False, "", "Open", "open ", b"open", ["open"], ("open",), {}, object(), paper,
                         "surely not", mock.ANY):
                self.assertIs(check_answer(family, found, question, told, paper), False)

    def test_other_keys_and_values(self):
        chooser = random.Random(31)
        seen = {True: 0, False: 0}
        for family, found, tree, question in self.cases(31, 60, 3):
            paper = answer_paper(family, found, question)
            answer = answer_of(family, found, question)
            many = len(question.patterns)
            changed = [dict(reversed(list(paper.items())))]
            for world in chooser.sample(list(paper), min(3, len(paper))):
                changed.append({key: one for key, one in paper.items() if key != world})
                others = [*ODD, *chooser.sample(list(paper.values()), min(3, len(paper))), ("c",), ("A",), ["a"]]
                page = world_page(family, found, question, world)
                if page is not None:
                    others += [page + page, page[::-1], page[1:], list(page), page + ("",), page + ("ab",), page + ("z",)]
                changed += [{**paper, world: other} for other in others]
                keys = [tuple(map(bool, world)), tuple(map(float, world)), world + (many,), world + (0,), repr(world), (-1,)]
                changed += [{**{key: one for key, one in paper.items() if key != world}, other: paper[world]}
                            for other in keys]
            changed += [{**paper, other: ()} for other in ((many,), (0, 0), None, "", 0, True, (True, False))]
            for value in changed:
                right = self.is_right(family, found, tree, answer, value)
                seen[right] += 1
                self.assertIs(check_answer(family, found, question, answer, value), right, value)
        self.assertGreater(min(seen.values()), 400)

    def test_true_is_not_one(self):
        family, question = Family("ab", ["a"]), read_question("'a' & 'b'")
        paper = answer_paper(family, ["a"], question)
        self.assertIs(check_answer(family, ["a"], question, "open", paper), True)
        without = {key: one for key, one in paper.items() if key != (1,)}
        self.assertIs(check_answer(family, ["a"], question, "open", {**without, (True,): paper[(1,)]}), False)
        self.assertIs(check_answer(family, ["a"], question, "open", {**without, (1,): paper[(1,)]}), True)

    def test_other_values(self):
        for family, found, _, question in self.cases(41, 10):
            for value in (*ODD, list(answer_paper(family, found, question).items())):
                for told in ("surely", "not", "open", "never", None):
                    self.assertIs(check_answer(family, found, question, told, value), False)

    def test_no_list_stands_in_two_places(self):
        for family, found, _, question in self.cases(51, 25):
            one, two = answer_paper(family, found, question), answer_paper(family, found, question)
            self.assertEqual(one, two)
            lists = [value[2] for paper in (one, two) for value in paper.values()
                     if len(value) == 3 and isinstance(value[2], list)]
            self.assertEqual(len({id(states) for states in lists}), len(lists))
            for states in lists[:len(lists) // 2]:
                states.append(None)
            one.clear()
            self.assertEqual(answer_paper(family, found, question), two)


class WrongArgumentTest(unittest.TestCase):
    family = Family("ab", ["ab", "b"])
    question = read_question("'a' & 'b'")

    def calls(self, family, found, question, world):
        """All four functions, those first that have no world."""
        return [lambda: answer_paper(family, found, question),
                lambda: check_answer(family, found, question, "open", {}),
                lambda: check_answer(family, found, question, None, None),
                lambda: world_paper(family, found, question, world),
                lambda: check_world(family, found, question, world, ("piece", "b", [])),
                lambda: check_world(family, found, question, world, None)]

    def check(self, error, value, calls):
        for call in calls:
            with self.assertRaises(error) as caught:
                call()
            self.assertIs(caught.exception.value, value)

    def test_the_leftmost_first(self):
        for family in (None, 1, True, "ab", self.question, Family):
            for found, question, world in ((["b"], self.question, (0,)), (None, None, None), (["a"], "'a'", (9,))):
                self.check(BadArgument, family, self.calls(family, found, question, world))
        for found in (None, "b", ("b",), ["a"], ["b", "b"], ["b", 1], [True], {"b": 1}):
            for question, world in ((self.question, (0,)), (None, None), (self.question, (9,))):
                self.check(BadPieces, found, self.calls(self.family, found, question, world))
        for question in (None, 1, "'a'", self.family, Family):
            for world in ((), (0,), None, (9,)):
                self.check(BadArgument, question, self.calls(self.family, ["b"], question, world))

    def test_wrong_worlds_behind_all_others(self):
        for world in (None, 0, "", [], [0], (2,), (0, 2), (True,), (0, True), (1, 0), (0, 0), (-1,), (0.0,), ("0",), {}):
            self.check(BadPieces, world, self.calls(self.family, ["b"], self.question, world)[3:])


if __name__ == "__main__":
    unittest.main()
