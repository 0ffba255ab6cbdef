"""The form of the interface from stage 2 on: its names, arguments and examples, as they stand in the document."""

import inspect
import unittest

from surelyhas import answers, asking, choices, journals, keeping, matches, papers, questions, within, worlds
from surelyhas.archives import Archive
from surelyhas.console import Console
from surelyhas.errors import BadArgument, BadPage, BadPieces, BadQuestion
from surelyhas.families import Family
from surelyhas.patterns import Pattern
from surelyhas.questions import Question, read_question
from surelyhas.reuse import Memory
from tests.test_conventions import failures_of

EXAMPLES = """
>>> from surelyhas.patterns import Pattern
>>> from surelyhas.questions import Question
>>> one = Question(Pattern('ab')) & ~(Question(Pattern('c')) | Question(Pattern('ab')))
>>> (one.show(), [pattern.text for pattern in one.patterns])
("'ab' & ~('c' | 'ab')", ['ab', 'c'])

>>> from surelyhas.patterns import Pattern
>>> from surelyhas.questions import Question, read_question
>>> read_question("~'a' & 'b|c' | 'd'") == (~Question(Pattern('a')) & Question(Pattern('b|c'))) | Question(Pattern('d'))
True

>>> from surelyhas.families import Family
>>> Family('ab', ['ab', 'ba', 'bb']).of(('aab', 'bb'))
['ab', 'bb']

>>> from surelyhas.questions import read_question
>>> from surelyhas.families import Family
>>> from surelyhas.worlds import worlds
>>> worlds(Family('ab', ['ab', 'ba']), ['ab'], read_question("'ab' | 'aab' & ~'ba'"))
[(0,), (0, 1)]

>>> from surelyhas.families import Family
>>> from surelyhas.worlds import can_be_had
>>> family = Family('ab', ['ab', 'aab'])
>>> (can_be_had(family, ['ab']), can_be_had(family, ['aab']))
(True, False)

>>> from surelyhas.questions import read_question
>>> from surelyhas.families import Family
>>> from surelyhas.answers import answer_of
>>> family = Family('abc', ['ab', 'bc'])
>>> [answer_of(family, ['ab', 'bc'], read_question(text)) for text in ("'abc'", "'ab' & 'b'", "'cab' & ~'b'")]
['open', 'surely', 'not']

>>> from surelyhas.questions import read_question
>>> from surelyhas.families import Family
>>> from surelyhas.archives import Archive
>>> archive = Archive(Family('ab', ['ab', 'bb']))
>>> told = [archive.put('one', ('ab',)), archive.put('two', ('abb', 'a')), archive.put('three', ())]
>>> (archive.listed('ab'), archive.listed('bb'), archive.answers(read_question("'abb'")))
(['one', 'two'], ['two'], {'one': 'not', 'three': 'not', 'two': 'open'})

>>> from surelyhas.questions import read_question
>>> from surelyhas.families import Family
>>> from surelyhas.asking import asking_tree
>>> asking_tree(Family('ab', ['a', 'ab']), read_question("'ab'"))
('ab', 'not', 'surely')

>>> from surelyhas.questions import read_question
>>> from surelyhas.families import Family
>>> from surelyhas.archives import Archive
>>> from surelyhas.choices import cheapest_sharp
>>> archive = Archive(Family('abc', ['a', 'ab', 'bc']))
>>> told = [archive.put('one', ('ab',)), archive.put('two', ('abc',)), archive.put('three', ('acb',))]
>>> cheapest_sharp(archive, read_question("'ab'"))[:2]
(['ab'], 2)

>>> from surelyhas.questions import read_question
>>> from surelyhas.families import Family
>>> from surelyhas.keeping import kept_pieces
>>> kept_pieces(Family('ab', ['a', 'ab', 'bb']), [read_question("'ab'")])[0]
['ab']

>>> from surelyhas.questions import read_question
>>> from surelyhas.within import lies_within, page_outside
>>> (lies_within('ab', read_question("'aab'"), read_question("'ab'")), page_outside('ab', read_question("'ab'"), read_question("'aab'")) is None)
(True, False)

>>> from surelyhas.questions import read_question
>>> from surelyhas.families import Family
>>> from surelyhas.reuse import Memory
>>> memory = Memory(Family('ab', ['ab', 'b']))
>>> told = memory.learn(read_question("'b'"))
>>> (memory.ask([], read_question("'ab'")), memory.ask(['b'], read_question("'ab'")), memory.counted)
(('not', 0), ('not', None), 3)

>>> from surelyhas.patterns import Pattern
>>> from surelyhas.matches import first_match, matches
>>> (list(matches(Pattern('a+'), 'aab')), first_match(Pattern('a+'), 'baab'))
([(0, 1), (0, 2), (1, 2)], (1, 3))

>>> from surelyhas.console import Console
>>> console = Console()
>>> [console.execute(line) for line in ('family ab ab,bb', 'put one =abb/=a', 'put two -', "ask 'abb'", 'list bb', 'parts')]
['ok', 'ok', 'ok', 'one=open two=not', 'one', 'one,two']
"""
FUNCTIONS = {
    questions.read_question: ["text"],
    worlds.worlds: ["family", "found", "question"],
    worlds.world_page: ["family", "found", "question", "world"],
    worlds.can_be_had: ["family", "found"],
    worlds.had_sets: ["family"],
    answers.answer_of: ["family", "found", "question"],
    answers.evidence: ["family", "found", "question"],
    papers.world_paper: ["family", "found", "question", "world"],
    papers.check_world: ["family", "found", "question", "world", "value"],
    papers.answer_paper: ["family", "found", "question"],
    papers.check_answer: ["family", "found", "question", "told", "value"],
    asking.asking_tree: ["family", "question"],
    asking.least_depth: ["family", "question"],
    asking.check_tree: ["family", "question", "value"],
    asking.stubborn_answers: ["family", "question"],
    asking.check_stubborn: ["family", "question", "number", "value"],
    choices.answers_by: ["archive", "question", "choice"],
    choices.is_sharp: ["archive", "question", "choice"],
    choices.price_of: ["archive", "question", "choice", "look"],
    choices.cheapest_sharp: ["archive", "question"],
    choices.cheapest: ["archive", "question", "look"],
    choices.check_cheapest: ["archive", "question", "choice", "told", "reasons"],
    choices.next_piece: ["archive", "question"],
    keeping.do_keep: ["family", "questions", "choice"],
    keeping.kept_pieces: ["family", "questions"],
    keeping.check_kept: ["family", "questions", "choice", "reasons"],
    within.lies_within: ["signs", "question", "other"],
    within.page_outside: ["signs", "question", "other"],
    within.is_alike: ["signs", "question", "other"],
    matches.matches: ["pattern", "line"],
    matches.first_match: ["pattern", "line", "start"],
    journals.check_sum: ["index", "line"],
    journals.journal: ["archive"],
    journals.recover: ["text"],
}
FILES = {
    questions: ["read_question"],
    worlds: ["worlds", "world_page", "can_be_had", "had_sets"],
    answers: ["answer_of", "evidence"],
    papers: ["world_paper", "check_world", "answer_paper", "check_answer"],
    asking: ["asking_tree", "least_depth", "check_tree", "stubborn_answers", "check_stubborn"],
    choices: ["answers_by", "is_sharp", "price_of", "cheapest_sharp", "cheapest", "check_cheapest", "next_piece"],
    keeping: ["do_keep", "kept_pieces", "check_kept"],
    within: ["lies_within", "page_outside", "is_alike"],
    matches: ["matches", "first_match"],
    journals: ["check_sum", "journal", "recover"],
}
# What may be omitted, with its value.
OMITTED = {choices.price_of: {"look": 0}, matches.first_match: {"start": 0}}
CLASSES = {
    Question: ("surelyhas.questions", ["patterns"],
               {"__init__": ["pattern"], "__and__": ["other"], "__or__": ["other"], "__invert__": [],
                "__eq__": ["other"], "show": [], "holds": ["world"], "meets": ["page"]}),
    Family: ("surelyhas.families", ["signs", "pieces"],
             {"__init__": ["signs", "pieces"], "of": ["page"], "cut": ["choice"], "is_allowed": ["found", "line"],
              "__eq__": ["other"]}),
    Archive: ("surelyhas.archives", ["names", "family", "parts", "changes"],
              {"__init__": ["family"], "__len__": [], "__contains__": ["value"], "__eq__": ["other"], "__enter__": [],
               "__exit__": ["kind", "value", "trace"], "put": ["name", "page"], "drop": ["name"], "page": ["name"],
               "found": ["name"], "listed": ["piece"], "answers": ["question"], "find": ["question"], "merge": [],
               "stand": ["name", "question"], "news": ["name"], "fall": ["name"]}),
    Memory: ("surelyhas.reuse", ["questions", "counted"],
             {"__init__": ["family"], "learn": ["question"], "ask": ["found", "question"]}),
    Console: ("surelyhas.console", ["archive"], {"__init__": [], "execute": ["line"]}),
}


def parameters_of(function):
    return list(inspect.signature(function).parameters)


class InterfaceTest(unittest.TestCase):
    def test_examples_of_the_interface(self):
        self.assertEqual(failures_of(EXAMPLES), 0)

    def test_functions_stand_in_their_file(self):
        for module, names in FILES.items():
            for name in names:
                self.assertEqual(getattr(module, name).__module__, module.__name__)
                self.assertIn(getattr(module, name), FUNCTIONS)
        for function, parameters in FUNCTIONS.items():
            self.assertEqual(parameters_of(function), parameters)
            omitted = {name: value.default for name, value in inspect.signature(function).parameters.items()
                       if value.default is not value.empty}
            self.assertEqual(omitted, OMITTED.get(function, {}))

    def test_methods_stand_in_their_class(self):
        for one, (module, properties, methods) in CLASSES.items():
            self.assertEqual(one.__module__, module)
            for name, parameters in methods.items():
                self.assertIn(name, vars(one))
                self.assertEqual(parameters_of(vars(one)[name])[1:], parameters)
            for name in properties:
                self.assertIsInstance(vars(one)[name], property)
            self.assertEqual(one.__hash__ is None, "__eq__" in methods)

    def test_arguments_by_name(self):
        family = Family(pieces=["ab", "b"], signs="ab")
        self.assertEqual(family.of(page=("ab",)), ["ab", "b"])
        self.assertEqual(family.cut(choice=["b"]).pieces, ["b"])
        self.assertIs(family.is_allowed(line="b", found=["b"]), True)
        question = Question(pattern=Pattern("ab")) | read_question(text="'^b'")
        self.assertIs(question.holds(world=(1,)), True)
        self.assertIs(question.meets(page=("b",)), True)
        self.assertEqual(worlds.worlds(question=question, found=["b"], family=family), [(1,)])
        self.assertEqual(worlds.world_page(world=(1,), question=question, found=["b"], family=family), ("b",))
        self.assertIs(worlds.can_be_had(found=["ab"], family=family), False)
        self.assertEqual(worlds.had_sets(family=family), [[], ["b"], ["ab", "b"]])

    def test_arguments_by_name_of_answers_and_papers(self):
        family, question = Family("ab", ["ab", "b"]), read_question("'ab' | '^b'")
        self.assertEqual(answers.answer_of(question=question, found=["b"], family=family), "surely")
        self.assertEqual(answers.evidence(question=question, found=["b"], family=family), (("b",), None))
        paper = papers.world_paper(world=(), question=question, found=["b"], family=family)
        self.assertIs(papers.check_world(value=paper, world=(), question=question, found=["b"], family=family), True)
        paper = papers.answer_paper(question=question, found=["b"], family=family)
        told = papers.check_answer(value=paper, told="surely", question=question, found=["b"], family=family)
        self.assertIs(told, True)
        tree = asking.asking_tree(question=question, family=family)
        self.assertIs(asking.check_tree(value=tree, question=question, family=family), True)
        self.assertEqual(asking.least_depth(question=question, family=family), 1)
        value = asking.stubborn_answers(question=question, family=family)
        self.assertIs(asking.check_stubborn(value=value, number=0, question=question, family=family), True)

    def test_arguments_by_name_of_archives(self):
        question = read_question(text="'ab'")
        archive = Archive(family=Family("ab", ["ab"]))
        archive.put(page=("ab",), name="one")
        archive.stand(question=question, name="all")
        archive.put(name="two", page=())
        self.assertEqual((archive.page(name="one"), archive.found(name="one")), (("ab",), ["ab"]))
        self.assertEqual((archive.listed(piece="ab"), archive.find(question=question)), (["one"], (["one"], [])))
        self.assertEqual(archive.answers(question=question), {"one": "surely", "two": "not"})
        archive.drop(name="one")
        self.assertEqual(archive.news(name="all"), ([], ["one"]))
        self.assertIsNone(archive.fall(name="all"))

    def test_arguments_by_name_of_choices(self):
        question = read_question("'ab'")
        archive = Archive(Family("ab", ["ab", "b"]))
        archive.put("one", ("ab",))
        self.assertEqual(choices.answers_by(choice=["b"], question=question, archive=archive), {"one": "open"})
        self.assertIs(choices.is_sharp(choice=["b"], question=question, archive=archive), False)
        self.assertEqual(choices.price_of(choice=["b"], question=question, archive=archive), 1)
        self.assertEqual(choices.price_of(look=5, choice=["b"], question=question, archive=archive), 6)
        choice, price, reasons = choices.cheapest_sharp(question=question, archive=archive)
        self.assertEqual((choice, price, reasons), (["ab"], 1, {(): "one"}))
        self.assertIs(choices.check_cheapest(reasons=reasons, told=price, choice=choice, question=question,
                                             archive=archive), True)
        self.assertEqual(choices.cheapest(look=3, question=question, archive=archive)[:2], (["ab"], 1))
        self.assertEqual(choices.next_piece(question=question, archive=archive), ("a", 0))

    def test_arguments_by_name_of_keeping_and_within(self):
        family, asked = Family("ab", ["ab", "b"]), [read_question("'ab'")]
        self.assertIs(keeping.do_keep(choice=["b"], questions=asked, family=family), False)
        choice, reasons = keeping.kept_pieces(questions=asked, family=family)
        self.assertIs(keeping.check_kept(reasons=reasons, choice=choice, questions=asked, family=family), True)
        one, two = read_question("'b'"), read_question("'ab'")
        self.assertIs(within.lies_within(other=one, question=two, signs="ab"), True)
        self.assertIsNone(within.page_outside(other=one, question=two, signs="ab"))
        self.assertIs(within.is_alike(other=one, question=two, signs="ab"), False)

    def test_arguments_by_name_of_matches_and_journals(self):
        self.assertEqual(list(matches.matches(line="aba", pattern=Pattern("a"))), [(0, 1), (2, 3)])
        self.assertEqual(matches.first_match(line="aba", pattern=Pattern("a")), (0, 1))
        self.assertEqual(matches.first_match(start=1, line="aba", pattern=Pattern("a")), (2, 3))
        self.assertEqual(journals.check_sum(line="a", index=1), 128)
        archive = Archive(family=Family("ab", []))
        self.assertEqual(journals.recover(text=journals.journal(archive=archive)), (archive, 0))

    def test_arguments_by_name_of_memories_and_consoles(self):
        memory = Memory(family=Family("ab", ["b"]))
        self.assertEqual(memory.learn(question=read_question("'b'")), 0)
        self.assertEqual(memory.ask(question=read_question("'ab'"), found=[]), ("not", 0))
        self.assertEqual(Console().execute(line="family ab b"), "ok")

    def test_properties_are_only_read(self):
        archive = Archive(Family("ab", ["a"]))
        for one, names in ((Family("ab", ["a"]), ("signs", "pieces")), (read_question("'a'"), ("patterns",)),
                           (archive, ("names", "family", "parts", "changes")), (Console(), ("archive",)),
                           (Memory(Family("ab", ["a"])), ("questions", "counted"))):
            for name in names:
                with self.assertRaises(AttributeError):
                    setattr(one, name, getattr(one, name))


class GivenTest(unittest.TestCase):
    def test_checkers_change_nothing_that_was_given(self):
        family, question = Family("ab", ["ab", "b"]), read_question("'a' & 'b'")
        found, asked, archive = ["b", "ab"], [question, question], Archive(family)
        values = [choices.cheapest_sharp(archive, question)[0], keeping.kept_pieces(family, asked)[1],
                  papers.answer_paper(family, found, question), papers.world_paper(family, found, question, (0,)),
                  asking.stubborn_answers(family, question), ["a"], {"a": ["b"]}, ("two", ["b"], []), ("b", ["not"], {})]
        before = repr(values)
        for value in values:
            papers.check_world(family, found, question, (0,), value)
            choices.check_cheapest(archive, question, value, value, value)
            keeping.check_kept(family, asked, value, value)
            papers.check_answer(family, found, question, "surely", value)
            papers.check_answer(family, found, question, value, value)
            asking.check_tree(family, question, value)
            asking.check_stubborn(family, question, 0, value)
            asking.check_stubborn(family, question, value, value)
        self.assertEqual((repr(values), found, asked), (before, ["b", "ab"], [question, question]))


class StateTest(unittest.TestCase):
    """No call changes an object, whether it raises an error or not."""

    def test_questions(self):
        one, two = read_question("'a' & ~'b'"), read_question("'c' | 'd' | 'e'")

        def state():
            return [(question.show(), question.patterns, question.holds((0,)), question.meets(("a", "b")))
                    for question in (one, two)]

        before = state()
        for error, call in ((BadQuestion, lambda: one & two), (BadQuestion, lambda: two | one),
                            (BadArgument, lambda: one & 1), (BadArgument, lambda: one | None),
                            (BadPieces, lambda: one.holds((2,))), (BadPage, lambda: one.meets(["a"])),
                            (BadArgument, lambda: one.__init__("a"))):
            self.assertRaises(error, call)
            self.assertEqual(state(), before)
        for told in (one.patterns, two.patterns):
            told.reverse()
            told.pop()
            self.assertEqual(state(), before)
        self.assertEqual(len({id(told) for told in [one.patterns, one.patterns, two.patterns]}), 3)

    def test_families(self):
        one = Family("ab", ["ab", "b"])
        for error, call in ((BadPage, lambda: one.of(("c",))), (BadPieces, lambda: one.cut(["a"])),
                            (BadPieces, lambda: one.is_allowed(["b", "b"], "b")), (BadPieces, lambda: one.__init__("a", [""]))):
            self.assertRaises(error, call)
            self.assertEqual((one.signs, one.pieces, one.of(("ab",))), ("ab", ["ab", "b"], ["ab", "b"]))


if __name__ == "__main__":
    unittest.main()
