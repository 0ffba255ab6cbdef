"""The form of the interface from stage 2 on: its names, arguments and examples, as they stand in the document."""

import inspect
import unittest

from surelyhas import questions, worlds
from surelyhas.errors import BadArgument, BadPage, BadPieces, BadQuestion
from surelyhas.families import Family
from surelyhas.patterns import Pattern
from surelyhas.questions import Question, read_question
from tests.test_conventions import failures_of

EXAMPLES = """
>>> from surelyhas.patterns import Pattern
>>> from surelyhas.questions import Question
>>> one = Question(Pattern('ab')) & ~(Question(Pattern('c')) | Question(Pattern('ab')))
>>> (one.show(), [pattern.text for pattern in one.patterns])
("'ab' & ~('c' | 'ab')", ['ab', 'c'])

>>> from surelyhas.patterns import Pattern
>>> from surelyhas.questions import Question, read_question
>>> read_question("~'a' & 'b|c' | 'd'") == (~Question(Pattern('a')) & Question(Pattern('b|c'))) | Question(Pattern('d'))
True

>>> from surelyhas.families import Family
>>> Family('ab', ['ab', 'ba', 'bb']).of(('aab', 'bb'))
['ab', 'bb']

>>> from surelyhas.questions import read_question
>>> from surelyhas.families import Family
>>> from surelyhas.worlds import worlds
>>> worlds(Family('ab', ['ab', 'ba']), ['ab'], read_question("'ab' | 'aab' & ~'ba'"))
[(0,), (0, 1)]

>>> from surelyhas.families import Family
>>> from surelyhas.worlds import can_be_had
>>> family = Family('ab', ['ab', 'aab'])
>>> (can_be_had(family, ['ab']), can_be_had(family, ['aab']))
(True, False)
"""
FUNCTIONS = {
    questions.read_question: ["text"],
    worlds.worlds: ["family", "found", "question"],
    worlds.world_page: ["family", "found", "question", "world"],
    worlds.can_be_had: ["family", "found"],
    worlds.had_sets: ["family"],
}
FILES = {questions: ["read_question"], worlds: ["worlds", "world_page", "can_be_had", "had_sets"]}
CLASSES = {
    Question: ("surelyhas.questions", ["patterns"],
               {"__init__": ["pattern"], "__and__": ["other"], "__or__": ["other"], "__invert__": [],
                "__eq__": ["other"], "show": [], "holds": ["world"], "meets": ["page"]}),
    Family: ("surelyhas.families", ["signs", "pieces"],
             {"__init__": ["signs", "pieces"], "of": ["page"], "cut": ["choice"], "is_allowed": ["found", "line"],
              "__eq__": ["other"]}),
}


def parameters_of(function):
    return list(inspect.signature(function).parameters)


class InterfaceTest(unittest.TestCase):
    def test_examples_of_the_interface(self):
        self.assertEqual(failures_of(EXAMPLES), 0)

    def test_functions_stand_in_their_file(self):
        for module, names in FILES.items():
            for name in names:
                self.assertEqual(getattr(module, name).__module__, module.__name__)
                self.assertIn(getattr(module, name), FUNCTIONS)
        for function, parameters in FUNCTIONS.items():
            self.assertEqual(parameters_of(function), parameters)

    def test_methods_stand_in_their_class(self):
        for one, (module, properties, methods) in CLASSES.items():
            self.assertEqual(one.__module__, module)
            for name, parameters in methods.items():
                self.assertIn(name, vars(one))
                self.assertEqual(parameters_of(vars(one)[name])[1:], parameters)
            for name in properties:
                self.assertIsInstance(vars(one)[name], property)
            self.assertIsNone(one.__hash__)

    def test_arguments_by_name(self):
        family = Family(pieces=["ab", "b"], signs="ab")
        self.assertEqual(family.of(page=("ab",)), ["ab", "b"])
        self.assertEqual(family.cut(choice=["b"]).pieces, ["b"])
        self.assertIs(family.is_allowed(line="b", found=["b"]), True)
        question = Question(pattern=Pattern("ab")) | read_question(text="'^b'")
        self.assertIs(question.holds(world=(1,)), True)
        self.assertIs(question.meets(page=("b",)), True)
        self.assertEqual(worlds.worlds(question=question, found=["b"], family=family), [(1,)])
        self.assertEqual(worlds.world_page(world=(1,), question=question, found=["b"], family=family), ("b",))
        self.assertIs(worlds.can_be_had(found=["ab"], family=family), False)
        self.assertEqual(worlds.had_sets(family=family), [[], ["b"], ["ab", "b"]])

    def test_properties_are_only_read(self):
        for one, names in ((Family("ab", ["a"]), ("signs", "pieces")), (read_question("'a'"), ("patterns",))):
            for name in names:
                with self.assertRaises(AttributeError):
                    setattr(one, name, getattr(one, name))


class StateTest(unittest.TestCase):
    """No call changes an object, whether it raises an error or not."""

    def test_questions(self):
        one, two = read_question("'a' & ~'b'"), read_question("'c' | 'd' | 'e'")

        def state():
            return [(question.show(), question.patterns, question.holds((0,)), question.meets(("a", "b")))
                    for question in (one, two)]

        before = state()
        for error, call in ((BadQuestion, lambda: one & two), (BadQuestion, lambda: two | one),
                            (BadArgument, lambda: one & 1), (BadArgument, lambda: one | None),
                            (BadPieces, lambda: one.holds((2,))), (BadPage, lambda: one.meets(["a"])),
                            (BadArgument, lambda: one.__init__("a"))):
            self.assertRaises(error, call)
            self.assertEqual(state(), before)
        for told in (one.patterns, two.patterns):
            told.reverse()
            told.pop()
            self.assertEqual(state(), before)
        self.assertEqual(len({id(told) for told in [one.patterns, one.patterns, two.patterns]}), 3)

    def test_families(self):
        one = Family("ab", ["ab", "b"])
        for error, call in ((BadPage, lambda: one.of(("c",))), (BadPieces, lambda: one.cut(["a"])),
                            (BadPieces, lambda: one.is_allowed(["b", "b"], "b")), (BadPieces, lambda: one.__init__("a", [""]))):
            self.assertRaises(error, call)
            self.assertEqual((one.signs, one.pieces, one.of(("ab",))), ("ab", ["ab", "b"], ["ab", "b"]))


if __name__ == "__main__":
    unittest.main()
