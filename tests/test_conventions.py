"""The conventions of point 2, and the form of the interface."""

import doctest
import inspect
import pathlib
import unittest
from unittest import mock

from surelyhas import errors, patterns, words
from surelyhas.patterns import Pattern

TOP = pathlib.Path(__file__).resolve().parent.parent
# The examples under the three files, as they stand in the interface.
EXAMPLES = """
>>> from surelyhas.words import read_page, show_page
>>> (show_page(('ab', '', 'c')), show_page(()), read_page('=ab/='))
('=ab/=/=c', '-', ('ab', ''))

>>> from surelyhas.patterns import Pattern
>>> one = Pattern('a(b|[cd])*$')
>>> (one.letters(3), one.first, one.last, one.follows(2), one.empty, one.to_end)
('cd', [1], [1, 2, 3], [2, 3], False, True)

>>> from surelyhas.patterns import Pattern
>>> one = Pattern('ab')
>>> (one.step((0,), 'a'), one.step((0, 1), 'b'), one.is_end((0, 2)))
((0, 1), (0, 2), True)
"""
METHODS = {"letters": ["position"], "follows": ["position"], "step": ["state", "sign"], "is_end": ["state"],
           "has": ["line"], "__init__": ["text"], "__eq__": None}
PROPERTIES = ("text", "many", "from_start", "to_end", "first", "last", "empty")
FUNCTIONS = {"is_line": ["value"], "is_name": ["value"], "is_page": ["value"], "is_signs": ["value"],
             "is_word": ["value"], "show_page": ["page"], "read_page": ["text"]}


def failures_of(text):
    runner = doctest.DocTestRunner(verbose=False)
    test = doctest.DocTestParser().get_doctest(text, {}, "examples", None, 0)
    assert test.examples
    return runner.run(test).failed


class ExampleTest(unittest.TestCase):
    def test_examples_of_the_interface(self):
        self.assertEqual(failures_of(EXAMPLES), 0)

    def test_examples_of_the_readme(self):
        self.assertEqual(failures_of((TOP / "README.md").read_text()), 0)


class InterfaceTest(unittest.TestCase):
    def test_functions_stand_in_their_file(self):
        for name, parameters in FUNCTIONS.items():
            function = getattr(words, name)
            self.assertEqual(function.__module__, "surelyhas.words")
            self.assertEqual(list(inspect.signature(function).parameters), parameters)

    def test_classes_stand_in_their_file(self):
        self.assertEqual(Pattern.__module__, "surelyhas.patterns")
        self.assertEqual(errors.HasError.__module__, "surelyhas.errors")

    def test_methods_stand_in_their_class(self):
        for name, parameters in METHODS.items():
            self.assertIn(name, vars(Pattern))
            if parameters is not None:
                self.assertEqual(list(inspect.signature(vars(Pattern)[name]).parameters)[1:], parameters)
        for name in PROPERTIES:
            self.assertIsInstance(vars(Pattern)[name], property)

    def test_arguments_by_name(self):
        one = Pattern(text="a[bc]$")
        self.assertEqual(one, Pattern("a[bc]$"))
        self.assertEqual((one.letters(position=2), one.follows(position=1)), ("bc", [2]))
        self.assertEqual(one.step(state=(0, 1), sign="c"), (0, 2))
        self.assertEqual(one.step(sign="c", state=(0, 1)), (0, 2))
        self.assertIs(one.is_end(state=(0, 2)), True)
        self.assertIs(one.has(line="cab"), True)
        self.assertEqual((words.show_page(page=("a",)), words.read_page(text="=a")), ("=a", ("a",)))
        for test in (words.is_line, words.is_name, words.is_page, words.is_signs, words.is_word):
            self.assertIs(test(value=("a",) if test is words.is_page else "a"), True)

    def test_properties_are_only_read(self):
        one = Pattern("ab")
        for name in PROPERTIES:
            with self.assertRaises(AttributeError):
                setattr(one, name, getattr(Pattern("c*"), name))
        self.assertEqual((one.text, one.many, one.first, one.last), ("ab", 2, [1], [2]))


class EqualityTest(unittest.TestCase):
    def test_patterns_are_compared_by_text(self):
        texts = ("", "a", "b", "^a", "a$", "[ab]", "[ba]", "(a)", "a|b", "b|a", "a*", "a**", "a?")
        for one in texts:
            for two in texts:
                self.assertIs(Pattern(one) == Pattern(two), one == two)
                self.assertIs(Pattern(one) != Pattern(two), one != two)

    def test_a_pattern_equals_no_object_of_another_class(self):
        class Other:
            def __init__(self):
                self.text = self._text = "a"

        one = Pattern("a")
        for value in (Other(), "a", b"a", None, True, 1, ["a"], ("a",), {"text": "a"}, errors.BadPattern("a"), Pattern):
            self.assertIs(one == value, False)
            self.assertIs(value == one, False)
            self.assertIs(one != value, True)
        # An object that is equal to everything does not make a pattern equal to it.
        self.assertIs(one == mock.ANY, False)

    def test_a_pattern_has_no_hash(self):
        with self.assertRaises(TypeError):
            hash(Pattern("a"))
        with self.assertRaises(TypeError):
            {Pattern("a"): 1}

    def test_true_is_not_one(self):
        one = Pattern("ab")
        self.assertRaises(errors.BadPattern, one.letters, True)
        self.assertRaises(errors.BadPattern, one.follows, True)
        self.assertRaises(errors.BadPieces, one.step, (False, True), "a")
        self.assertRaises(errors.BadPieces, one.is_end, (False,))
        for value in (*one.first, *one.last, *one.follows(1), *one.step((0,), "a"), one.many):
            self.assertIs(type(value), int)
        for value in (one.from_start, one.to_end, one.empty, one.is_end((0,)), one.has("ab"), one == Pattern("a")):
            self.assertIs(type(value), bool)


class NewListTest(unittest.TestCase):
    def told(self, one):
        follows = [one.follows(position) for position in range(1, one.many + 1)]
        return (one.text, one.many, one.first, one.last, one.empty, follows, one.step((0,), "a"), one.has("ab"))

    def test_changing_what_was_returned_changes_nothing(self):
        for text in ("ab", "a*b*", "(a|b)+", "^a?b$", ""):
            one = Pattern(text)
            before = self.told(one)
            lists = [one.first, one.last, *[one.follows(position) for position in range(1, one.many + 1)]]
            for told in lists:
                told.reverse()
                told.append(1)
                told.insert(0, 7)
            self.assertEqual(self.told(one), before)
            self.assertEqual(self.told(Pattern(text)), before)

    def test_every_list_is_new(self):
        one = Pattern("(a|b)*")
        lists = [one.first, one.first, one.last, one.last, one.follows(1), one.follows(1), one.follows(2)]
        self.assertEqual(lists, [[1, 2]] * 7)
        self.assertEqual(len({id(told) for told in lists}), 7)
        for told in lists:
            self.assertIs(type(told), list)

    def test_calls_leave_the_object_as_it_was(self):
        one = Pattern("a(b|[cd])*$")
        before = self.told(one)
        for call in (lambda: one.step((0, 1), "b"), lambda: one.has("abcdd"), lambda: one.is_end((0, 1)),
                     lambda: one.follows(3), lambda: one.letters(3)):
            self.assertEqual(call(), call())
        self.assertEqual(self.told(one), before)

    def test_wrong_calls_leave_the_object_as_it_was(self):
        one = Pattern("a(b|[cd])*$")
        before = self.told(one)
        for call in (lambda: one.step((9,), "b"), lambda: one.step((0,), "B"), lambda: one.has("aB"),
                     lambda: one.is_end([0]), lambda: one.follows(9), lambda: one.letters(0),
                     lambda: one.__init__("b("), lambda: one.__init__(3)):
            self.assertRaises(errors.HasError, call)
            self.assertEqual(self.told(one), before)

    def test_calls_change_nothing_that_was_given(self):
        one = Pattern("ab")
        for value in ([0], [], {}, {"a": [1]}, ["a", ["b"]]):
            before = repr(value)
            for call in (one.step, lambda given: one.step(given, given), one.is_end, one.has, one.letters, one.follows,
                         Pattern, words.show_page, words.read_page, words.is_page, words.is_line):
                try:
                    call(value)
                except (errors.HasError, TypeError):
                    pass
                self.assertEqual(repr(value), before)


if __name__ == "__main__":
    unittest.main()
