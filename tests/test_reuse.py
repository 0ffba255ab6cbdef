"""Memories against answers without them, and against the words of point 18 (18, and i of 3)."""

import random
import unittest

from surelyhas.answers import answer_of
from surelyhas.errors import BadArgument, BadPieces
from surelyhas.families import Family
from surelyhas.questions import read_question
from surelyhas.reuse import Memory
from surelyhas.within import lies_within
from tests.cases import FAMILIES, drawn_question
from tests.reckoned import choices_of, question_of
from tests.wrong import FAMILY, NO_CHOICE, NO_FAMILY, NO_QUESTION, QUESTION, check_wrong


class Brute:
    """A memory that goes by the words of point 18."""

    def __init__(self, family):
        self.family = family
        self.learned = []
        self.known = set()
        self.counted = 0

    def within(self, one, other):
        return lies_within(self.family.signs, one, other)

    def settling(self, number, found, question):
        """The answer with which a learned question settles another one, or None."""
        learned = self.learned[number]
        texts = {pattern.text for pattern in learned.patterns + question.patterns}
        if len(texts) > 4:
            return None
        inside, around = self.within(learned, question), self.within(question, learned)
        inside_opposite, around_opposite = self.within(learned, ~question), self.within(~question, learned)
        if not any((inside, around, inside_opposite, around_opposite)):
            return None
        self.counted += (number, frozenset(found)) not in self.known
        self.known.add((number, frozenset(found)))
        answer = answer_of(self.family, found, learned)
        told = {answer} if inside and around else set()
        told |= {"surely"} if inside and answer == "surely" else set()
        told |= {"not"} if around and answer == "not" else set()
        told |= {"not"} if inside_opposite and answer == "surely" else set()
        told |= {"surely"} if around_opposite and answer == "not" else set()
        told |= {"never"} if answer == "never" else set()
        assert len(told) < 2
        return told.pop() if told else None

    def ask(self, found, question):
        for number in range(len(self.learned)):
            answer = self.settling(number, found, question)
            if answer is not None:
                return answer, number
        self.counted += 1
        return answer_of(self.family, found, question), None


def related(chooser, question, pieces):
    """A question that often lies within another one, or around it, or within its opposite."""
    other = question_of(drawn_question(chooser, pieces * 4))
    kind = chooser.choice("=~&|n0")
    if len(question.patterns) + len(other.patterns) > 4:
        kind = chooser.choice("=~0")
    return {"=": question, "~": ~question, "&": question & other if kind == "&" else None,
            "|": other | question if kind == "|" else None, "n": ~(other & question) if kind == "n" else None,
            "0": other}[kind]


class AskTest(unittest.TestCase):
    def test_drawn_memories(self):
        chooser = random.Random(18)
        seen = {}
        for _ in range(160):
            signs, pieces, _ = chooser.choice(FAMILIES)
            family = Family(signs, pieces)
            memory, brute = Memory(family), Brute(family)
            questions = [question_of(drawn_question(chooser, pieces * 4))]
            for _ in range(25):
                question = related(chooser, chooser.choice(questions), pieces)
                questions.append(question)
                if chooser.random() < 0.3:
                    brute.learned.append(question)
                    self.assertEqual(memory.learn(question), len(brute.learned) - 1)
                found = chooser.choice(choices_of(pieces))
                chooser.shuffle(found)
                given = list(found)
                told = memory.ask(given, question)
                self.assertEqual(told, brute.ask(found, question))
                self.assertEqual(given, found)
                self.assertEqual(told[0], answer_of(family, found, question))
                self.assertEqual((memory.counted, memory.questions), (brute.counted, brute.learned))
                kind = told[0], told[1] is None
                seen[kind] = seen.get(kind, 0) + 1
        self.assertEqual(len(seen), 8)
        self.assertGreater(min(seen.values()), 20)

    def learned(self, *texts):
        memory = Memory(Family("ab", ["ab", "b"]))
        self.assertEqual([memory.learn(read_question(text)) for text in texts], list(range(len(texts))))
        return memory

    def check(self, memory, found, text, answer, number, counted):
        """What is told of a question, and how many answers are reckoned for it."""
        before = memory.counted
        self.assertEqual(memory.ask(found, read_question(text)), (answer, number))
        self.assertEqual(memory.counted - before, counted)

    def test_without_questions(self):
        memory = self.learned()
        for _ in range(2):
            self.check(memory, ["b"], "'b'", "surely", None, 1)
            self.check(memory, ["ab"], "'b'", "never", None, 1)
            self.check(memory, [], "'aa'", "open", None, 1)

    def test_alike_ones(self):
        memory = self.learned("'b' | 'b'")
        self.check(memory, [], "'b'", "not", 0, 1)
        self.check(memory, [], "~~'b'", "not", 0, 0)
        self.check(memory, ["b"], "'b'", "surely", 0, 1)
        memory = self.learned("'bb'")
        self.check(memory, ["b"], "'bb' & 'b'", "open", 0, 1)
        self.check(memory, ["b", "ab"], "'bb' & 'b'", "open", 0, 1)
        self.check(memory, ["ab", "b"], "'bb' & 'b'", "open", 0, 0)
        self.check(memory, ["ab"], "'bb' & 'b'", "never", 0, 1)

    def test_ones_that_lie_within_and_around(self):
        memory = self.learned("'ab'")
        self.check(memory, ["ab", "b"], "'b'", "surely", 0, 1)
        self.check(memory, ["b"], "'b'", "surely", None, 2)
        self.check(memory, ["b"], "'b'", "surely", None, 1)
        self.check(memory, ["b"], "'aab'", "not", 0, 0)
        self.check(memory, ["ab", "b"], "'aab'", "open", None, 1)
        self.check(memory, ["b", "ab"], "'aab'", "open", None, 1)

    def test_opposites(self):
        memory = self.learned("'ab'")
        self.check(memory, ["ab", "b"], "~'ab'", "not", 0, 1)
        self.check(memory, ["b"], "~'ab'", "surely", 0, 1)
        self.check(memory, ["ab", "b"], "~'b'", "not", 0, 0)
        self.check(memory, ["b"], "~'aab'", "surely", 0, 0)
        self.check(memory, ["b"], "~'b'", "not", None, 1)

    def test_found_that_cannot_be_had(self):
        memory = self.learned("'ab'", "'aa'")
        self.check(memory, ["ab"], "'b'", "never", 0, 1)
        self.check(memory, ["ab"], "~'b'", "never", 0, 0)
        self.check(memory, ["ab"], "'bba'", "never", None, 1)
        self.check(memory, ["ab"], "'aa'", "never", 1, 1)

    def test_ones_with_too_many_patterns(self):
        memory = self.learned("'a' & 'b' & 'c' & 'd'", "'a' | 'e'")
        self.check(memory, ["b"], "'a' & 'b' & 'c' & 'd' & 'a'", "not", 0, 1)
        # Together with the first there are five patterns, so only the second is gone through.
        self.check(memory, ["b"], "'a' & 'e'", "not", None, 2)
        self.check(memory, ["b"], "'e'", "not", None, 1)
        self.check(memory, ["b"], "'a' | 'e' | 'a'", "open", 1, 0)
        memory = self.learned("'a' & 'b' & 'c' & 'd'")
        self.check(memory, [], "'e'", "not", None, 1)

    def test_the_first_that_settles(self):
        memory = self.learned("'aa'", "'b'", "'b' & 'b'", "'ab'", "'b'")
        self.check(memory, [], "'ab'", "not", 1, 1)
        self.check(memory, ["b"], "'b'", "surely", 1, 1)
        self.check(memory, ["b"], "'ab'", "not", 3, 2)
        self.assertEqual(memory.counted, 4)

    def test_equal_questions_are_reckoned_alone(self):
        memory = self.learned("'ab'", "'ab'", "'ab'")
        self.check(memory, ["b"], "'b'", "surely", None, 4)
        self.check(memory, ["b"], "'b'", "surely", None, 1)
        self.assertEqual(len(memory.questions), 3)
        self.check(memory, ["b"], "'ab'", "not", 0, 0)

    def test_unrelated_ones_are_not_reckoned(self):
        memory = self.learned("'aa'", "'bb'")
        self.check(memory, ["b"], "'aba'", "not", None, 1)
        self.check(memory, ["ab", "b"], "'aba'", "open", None, 1)

    def test_signs_of_the_family(self):
        for signs, number in (("ab", 0), ("abc", None)):
            memory = Memory(Family(signs, ["a"]))
            memory.learn(read_question("'[ab]$'"))
            self.assertEqual(memory.ask([], read_question("'[abc]$'")), ("open", number))


class QuestionTest(unittest.TestCase):
    def test_numbers_and_changed_lists(self):
        memory = Memory(FAMILY)
        self.assertEqual((memory.questions, memory.counted), ([], 0))
        one, two = read_question("'a'"), read_question("~'b'")
        self.assertEqual([memory.learn(question) for question in (one, two, one, read_question("'a'"))], [0, 1, 2, 3])
        told = memory.questions
        self.assertEqual(told, [one, two, one, one])
        self.assertIs(type(told), list)
        self.assertIsNot(memory.questions, memory.questions)
        told.reverse()
        told.clear()
        memory.questions.append(None)
        self.assertEqual(memory.questions, [one, two, one, one])
        self.assertEqual(memory.learn(two), 4)
        self.assertIs(type(memory.learn(two)), int)
        self.assertIs(type(memory.counted), int)

    def test_learning_reckons_nothing(self):
        memory = Memory(FAMILY)
        for text in ("'a'", "'b'", "'ab' & 'b'"):
            memory.learn(read_question(text))
        self.assertEqual(memory.counted, 0)

    def test_two_memories(self):
        one, two = Memory(FAMILY), Memory(FAMILY)
        one.learn(QUESTION)
        one.ask([], QUESTION)
        self.assertEqual((one.counted, two.counted, two.questions), (1, 0, []))
        self.assertEqual(two.ask([], QUESTION), ("not", None))


class ArgumentTest(unittest.TestCase):
    def test_wrong_arguments(self):
        memory = Memory(FAMILY)
        memory.learn(QUESTION)
        memory.ask([], QUESTION)
        check_wrong(self, Memory, [(FAMILY, NO_FAMILY)])
        check_wrong(self, memory.learn, [(QUESTION, NO_QUESTION)])
        for one in (memory, Memory(FAMILY)):
            check_wrong(self, one.ask, [(["b"], NO_CHOICE), (QUESTION, NO_QUESTION)])
        self.assertEqual((memory.questions, memory.counted), ([QUESTION], 1))
        self.assertRaises(BadPieces, memory.ask, ["a"], None)
        self.assertRaises(BadArgument, memory.ask, [], None)


if __name__ == "__main__":
    unittest.main()
