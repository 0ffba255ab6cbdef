"""Archives under drawn changes, against a dict and parts of the tests' own (11, 15, and e and h of 3)."""

import itertools
import random
import unittest
from unittest import mock

from surelyhas.answers import answer_of
from surelyhas.archives import Archive
from surelyhas.errors import BadArgument, BadName, BadPage, BadPieces, NameTaken, UnknownName
from surelyhas.families import Family
from surelyhas.questions import read_question
from tests.cases import NAMES, drawn_page, drawn_question, put_all
from tests.reckoned import had_by, is_met, patterns_of, pieces_in, question_of

NO_NAMES = (None, 0, 1, True, False, "", "A", "aB", "abcdefghi", "a b", "a1", b"a", ["a"], ("a",), (), [], {}, {"a": 1},
            {"a"}, object(), 1.5, "a\n", "\u00e4", mock.ANY)
NO_PAGES = (None, 0, True, "", "a", "=a", [], ["a"], {}, object(), (None,), (1,), ("A",), ("a", ["b"]), ("c",), ("ab", "z"),
            (b"a",), ("a", ("b",)), (True,), ("a b",))
NO_QUESTIONS = (None, 0, True, "", "'a'", ["'a'"], {}, object(), Family("ab", []))
FAMILIES = (Family("ab", ["ab", "bb"]), Family("ab", ["a", "ba", "aba"]), Family("abc", ["c", "ab", "bc", "a"]),
            Family("ab", []), Family("a", ["aa", "a"]))


class Model:
    """What an archive must tell, kept the plain way."""

    def __init__(self, family):
        self.family = family
        self.pages = {}
        self.closed = []
        self.newest = []
        self.changes = []
        self.standing = {}

    def copy(self):
        other = Model(self.family)
        other.pages = dict(self.pages)
        other.closed = [set(part) for part in self.closed]
        other.newest = set(self.newest)
        other.changes = list(self.changes)
        other.standing = dict(self.standing)
        return other

    def take_out(self, name):
        self.pages.pop(name, None)
        for part in [*self.closed, self.newest]:
            if name in part:
                part.remove(name)

    def put(self, name, page):
        self.take_out(name)
        self.pages[name] = page
        self.newest = {*self.newest, name}
        if len(self.newest) == 4:
            self.closed.append(self.newest)
            self.newest = set()
        self.changes.append(("put", name, page))

    def drop(self, name):
        self.take_out(name)
        self.changes.append(("drop", name))

    def merge(self):
        self.closed = [set(self.pages)]
        self.newest = set()
        self.changes.append(("merge",))

    def parts(self):
        return [sorted(part) for part in [*self.closed, self.newest] if part]

    def meeting(self, tree):
        return sorted(name for name, page in self.pages.items() if is_met(tree, had_by(page, patterns_of(tree))))

    def stand(self, name, tree):
        self.standing[name] = (tree, self.meeting(tree))

    def news(self, name):
        tree, before = self.standing[name]
        now = self.meeting(tree)
        self.standing[name] = (tree, now)
        return sorted(set(now) - set(before)), sorted(set(before) - set(now))


class ArchiveCase(unittest.TestCase):
    def assert_same(self, archive, model):
        """All that an archive tells without a question."""
        self.assertEqual(len(archive), len(model.pages))
        self.assertEqual(archive.names, sorted(model.pages))
        self.assertEqual(archive.parts, model.parts())
        self.assertEqual(archive.changes, model.changes)
        self.assertEqual(archive.family, model.family)
        for name in NAMES:
            self.assertIs(name in archive, name in model.pages)
            if name in model.pages:
                self.assertEqual(archive.page(name), model.pages[name])
                self.assertEqual(archive.found(name), pieces_in(model.pages[name], model.family.pieces))
            else:
                self.assertRaises(UnknownName, archive.page, name)
                self.assertRaises(UnknownName, archive.found, name)
        for piece in model.family.pieces:
            having = sorted(name for name, page in model.pages.items() if piece in pieces_in(page, [piece]))
            self.assertEqual(archive.listed(piece), having)

    def assert_answers(self, archive, model, tree):
        """All that an archive tells for a question."""
        question = question_of(tree)
        answers = {name: answer_of(model.family, pieces_in(page, model.family.pieces), question)
                   for name, page in model.pages.items()}
        self.assertEqual(archive.answers(question), answers)
        looked = sorted(name for name, answer in answers.items() if answer == "open")
        self.assertEqual(archive.find(question), (model.meeting(tree), looked))

    def change(self, chooser, archive, model):
        """One drawn change of both."""
        kind = chooser.choice(("put", "put", "put", "drop", "merge" if chooser.random() < 0.4 else "put"))
        if kind == "put":
            name, page = chooser.choice(NAMES), drawn_page(chooser, model.family.signs)
            self.assertIsNone(archive.put(name, page))
            model.put(name, page)
        elif kind == "merge":
            self.assertIsNone(archive.merge())
            model.merge()
        elif model.pages:
            name = chooser.choice(sorted(model.pages))
            self.assertIsNone(archive.drop(name))
            model.drop(name)


class ChangeTest(ArchiveCase):
    def test_drawn_changes(self):
        chooser = random.Random(13)
        for family in FAMILIES * 6:
            archive, model = Archive(family), Model(family)
            self.assert_same(archive, model)
            for _ in range(40):
                self.change(chooser, archive, model)
                self.assert_same(archive, model)
            for _ in range(4):
                self.assert_answers(archive, model, drawn_question(chooser))

    def test_like_an_archive_made_anew(self):
        chooser = random.Random(23)
        for family in FAMILIES * 5:
            archive, model = Archive(family), Model(family)
            for _ in range(30):
                self.change(chooser, archive, model)
            anew = put_all(Archive(family), sorted(model.pages.items(), key=lambda pair: chooser.random()))
            self.assertEqual(archive, anew)
            for _ in range(3):
                question = question_of(drawn_question(chooser))
                self.assertEqual(archive.answers(question), anew.answers(question))
                self.assertEqual(archive.find(question), anew.find(question))
            for piece in family.pieces:
                self.assertEqual(archive.listed(piece), anew.listed(piece))

    def test_parts(self):
        archive = Archive(Family("ab", ["ab"]))
        self.assertEqual(archive.parts, [])
        for name in "ecadb":
            archive.put(name, ())
        self.assertEqual(archive.parts, [["a", "c", "d", "e"], ["b"]])
        archive.put("f", ())
        archive.drop("b")
        archive.drop("f")
        self.assertEqual(archive.parts, [["a", "c", "d", "e"]])
        archive.drop("c")
        archive.put("g", ())
        # The closed part stays closed, though it has only three pages now.
        self.assertEqual(archive.parts, [["a", "d", "e"], ["g"]])
        archive.put("a", ("b",))
        self.assertEqual(archive.parts, [["d", "e"], ["a", "g"]])
        archive.put("h", ())
        # A page that is put anew leaves the newest part first, which has three pages again.
        archive.put("g", ("a",))
        self.assertEqual(archive.parts, [["d", "e"], ["a", "g", "h"]])
        archive.put("i", ())
        archive.put("j", ())
        self.assertEqual(archive.parts, [["d", "e"], ["a", "g", "h", "i"], ["j"]])
        archive.merge()
        self.assertEqual(archive.parts, [["a", "d", "e", "g", "h", "i", "j"]])
        archive.put("k", ())
        self.assertEqual(archive.parts, [["a", "d", "e", "g", "h", "i", "j"], ["k"]])
        archive.merge()
        archive.merge()
        self.assertEqual(archive.parts, [["a", "d", "e", "g", "h", "i", "j", "k"]])

    def test_merging_few_pages(self):
        archive = Archive(Family("ab", []))
        archive.merge()
        self.assertEqual((archive.parts, archive.changes), ([], [("merge",)]))
        archive.put("a", ())
        archive.merge()
        archive.put("b", ())
        self.assertEqual(archive.parts, [["a"], ["b"]])
        archive.drop("a")
        archive.drop("b")
        archive.merge()
        self.assertEqual((archive.parts, archive.names), ([], []))
        self.assertEqual(archive.changes, [("merge",), ("put", "a", ()), ("merge",), ("put", "b", ()), ("drop", "a"),
                                           ("drop", "b"), ("merge",)])

    def test_what_was_told_changed_afterwards(self):
        chooser = random.Random(33)
        family = Family("ab", ["ab", "a"])
        archive, model = Archive(family), Model(family)
        for _ in range(12):
            self.change(chooser, archive, model)
        archive.stand("a", read_question("'a'"))
        name = archive.names[0]
        question = read_question("'ab' | 'b'")
        before = archive.answers(question), archive.find(question)
        lists = [archive.names, archive.parts, archive.changes, archive.found(name), archive.listed("ab"),
                 archive.listed("a"), archive.family.pieces, *archive.parts, *archive.find(question), *archive.news("a")]
        self.assertEqual(len({id(told) for told in lists}), len(lists))
        for told in lists:
            told.append("zz")
            told.reverse()
        archive.answers(question).clear()
        self.assert_same(archive, model)
        self.assertEqual((archive.answers(question), archive.find(question)), before)
        self.assertEqual(archive.news("a"), ([], []))

    def test_values_that_are_in_none(self):
        archive = put_all(Archive(Family("ab", ["ab"])), [("a", ()), ("b", ("ab",))])
        for value in (*NO_NAMES, "c", "ab", ("a", ()), archive):
            self.assertIs(value in archive, False)
        self.assertIs("a" in archive, True)

    def test_listed(self):
        archive = put_all(Archive(Family("ab", ["ab", "b"])), [("b", ("ab",)), ("a", ("b", "a")), ("c", ("aba",))])
        self.assertEqual((archive.listed("ab"), archive.listed("b")), (["b", "c"], ["a", "b", "c"]))
        for value in (*NO_NAMES, "a", "ba", "aba", ["ab"], ("b",)):
            with self.subTest(value=value):
                with self.assertRaises(BadPieces) as caught:
                    archive.listed(value)
                self.assertIs(caught.exception.value, value)


class EqualTest(unittest.TestCase):
    def test_pages_put_in_another_order(self):
        pages = [("a", ("ab",)), ("b", ()), ("c", ("", "b")), ("d", ("a",)), ("e", ("ab",))]
        one = put_all(Archive(Family("ab", ["ab"])), pages)
        for order in itertools.permutations(pages):
            two = put_all(Archive(Family("ab", ["ab"])), order)
            self.assertIs(one == two, True)
            self.assertIs(one != two, False)

    def test_parts_changes_and_standing_do_not_count(self):
        one, two = [put_all(Archive(Family("ab", ["ab"])), [("a", ("ab",)), ("b", ())]) for _ in range(2)]
        two.merge()
        two.put("c", ())
        self.assertIs(one == two, False)
        two.drop("c")
        two.put("a", ("ab",))
        two.stand("a", read_question("'a'"))
        self.assertIs(one == two, True)

    def test_unlike_archives(self):
        base = [("a", ("ab",)), ("b", ())]
        one = put_all(Archive(Family("ab", ["ab"])), base)
        for family, pages in ((Family("ab", ["ab"]), base[:1]), (Family("ab", ["ab"]), [("a", ("ab",)), ("c", ())]),
                              (Family("ab", ["ab"]), [("a", ("ab", "")), ("b", ())]), (Family("ab", ["a"]), base),
                              (Family("ab", ["ab", "a"]), base), (Family("abc", ["ab"]), base), (Family("ab", ["ab"]), [])):
            self.assertIs(one == put_all(Archive(family), pages), False)

    def test_other_classes(self):
        one = Archive(Family("ab", []))
        for value in (None, 0, True, {}, [], "", Family("ab", []), Archive, object()):
            self.assertIs(one == value, False)
            self.assertIs(value == one, False)
        with self.assertRaises(TypeError):
            hash(one)


class StandingTest(ArchiveCase):
    def test_drawn_changes(self):
        chooser = random.Random(43)
        for family in FAMILIES * 4:
            archive, model = Archive(family), Model(family)
            for _ in range(60):
                kind = chooser.choice(("change", "change", "change", "stand", "news", "news", "fall"))
                name = chooser.choice(NAMES[:4])
                if kind == "change":
                    self.change(chooser, archive, model)
                elif kind == "stand" and name not in model.standing:
                    tree = drawn_question(chooser)
                    self.assertIsNone(archive.stand(name, question_of(tree)))
                    model.stand(name, tree)
                elif kind == "news" and name in model.standing:
                    self.assertEqual(archive.news(name), model.news(name))
                    if chooser.random() < 0.3:
                        self.assertEqual(archive.news(name), ([], []))
                elif kind == "fall" and name in model.standing:
                    self.assertIsNone(archive.fall(name))
                    del model.standing[name]
            self.assert_same(archive, model)

    def test_each_kind_of_change(self):
        archive = put_all(Archive(Family("ab", ["ab"])), [("a", ("ab",)), ("b", ("b",))])
        archive.stand("news", read_question("'ab' | '^b$'"))
        self.assertEqual(archive.news("news"), ([], []))
        archive.put("c", ("aab",))
        archive.put("d", ("a",))
        self.assertEqual(archive.news("news"), (["c"], []))
        self.assertEqual(archive.news("news"), ([], []))
        archive.drop("a")
        archive.put("b", ("a",))
        archive.put("d", ("b",))
        self.assertEqual(archive.news("news"), (["d"], ["a", "b"]))
        archive.merge()
        self.assertEqual(archive.news("news"), ([], []))
        # Names alone count, whatever page stands under them.
        archive.put("c", ("b",))
        archive.drop("d")
        archive.put("d", ("ab", "ab"))
        archive.put("e", ("ab",))
        archive.drop("e")
        self.assertEqual(archive.news("news"), ([], []))

    def test_after_a_fall(self):
        archive = put_all(Archive(Family("ab", ["ab"])), [("a", ("ab",))])
        archive.stand("one", read_question("'ab'"))
        archive.put("b", ("ab",))
        archive.fall("one")
        self.assertRaises(UnknownName, archive.news, "one")
        self.assertRaises(UnknownName, archive.fall, "one")
        archive.stand("one", read_question("~'ab'"))
        self.assertEqual(archive.news("one"), ([], []))
        archive.put("b", ())
        self.assertEqual(archive.news("one"), (["b"], []))

    def test_names_of_pages_are_no_names_of_questions(self):
        archive = put_all(Archive(Family("ab", ["ab"])), [("a", ("ab",))])
        self.assertRaises(UnknownName, archive.news, "a")
        archive.stand("a", read_question("'ab'"))
        archive.stand("b", read_question("'ab'"))
        self.assertRaises(UnknownName, archive.page, "b")
        archive.drop("a")
        self.assertEqual((archive.news("a"), archive.news("b")), (([], ["a"]), ([], ["a"])))
        self.assertEqual(archive.changes, [("put", "a", ("ab",)), ("drop", "a")])

    def test_taken_names(self):
        archive = Archive(Family("ab", ["ab"]))
        archive.stand("a", read_question("'b'"))
        with self.assertRaises(NameTaken) as caught:
            archive.stand("a", read_question("'ab'"))
        self.assertEqual(caught.exception.name, "a")
        for question in NO_QUESTIONS:
            with self.assertRaises(BadArgument) as caught:
                archive.stand("a", question)
            self.assertIs(caught.exception.value, question)
        archive.put("c", ("b",))
        self.assertEqual(archive.news("a"), (["c"], []))


class WithTest(ArchiveCase):
    def told(self, archive):
        return (archive.names, archive.parts, archive.changes, {name: archive.page(name) for name in archive.names},
                {name: archive.found(name) for name in archive.names}, len(archive))

    def test_after_an_error_all_is_as_it_was(self):
        chooser = random.Random(53)
        for family in FAMILIES * 6:
            archive, model = Archive(family), Model(family)
            for name in ("a", "b"):
                tree = drawn_question(chooser)
                archive.stand(name, question_of(tree))
                model.stand(name, tree)
            for at in range(6):
                for _ in range(chooser.randrange(8)):
                    self.change(chooser, archive, model)
                fails = chooser.random() < 0.6
                inner = model.copy()
                error = ValueError(at)
                try:
                    with archive as held:
                        self.assertIs(held, archive)
                        for _ in range(chooser.randrange(9)):
                            self.change(chooser, archive, inner)
                        self.assertEqual(archive.news("a"), inner.news("a"))
                        if chooser.random() < 0.5:
                            archive.fall("b")
                            archive.stand("b", question_of("a"))
                            inner.stand("b", "a")
                        self.assert_same(archive, inner)
                        if fails:
                            raise error
                except ValueError as caught:
                    self.assertIs(caught, error)
                    self.assertTrue(fails)
                else:
                    self.assertFalse(fails)
                    model = inner
                self.assert_same(archive, model)
            for name in ("a", "b"):
                self.assertEqual(archive.news(name), model.news(name))

    def test_standing_questions(self):
        archive = put_all(Archive(Family("ab", ["ab"])), [("a", ("ab",))])
        archive.stand("one", read_question("'ab'"))
        archive.put("b", ("ab",))
        for error in (KeyError, KeyboardInterrupt, UnknownName):
            with self.assertRaises(error):
                with archive:
                    self.assertEqual(archive.news("one"), (["b"], []))
                    archive.fall("one")
                    archive.stand("two", read_question("'b'"))
                    archive.drop("a")
                    raise error(1)
            self.assertRaises(UnknownName, archive.news, "two")
            self.assertEqual(archive.names, ["a", "b"])
        # What their news had told is as it was, too.
        self.assertEqual(archive.news("one"), (["b"], []))

    def test_errors_of_the_archive(self):
        archive = put_all(Archive(Family("ab", ["ab"])), [("a", ("ab",))])
        before = self.told(archive)
        for error, call in ((UnknownName, lambda: archive.drop("zz")), (BadPage, lambda: archive.put("a", ("c",))),
                            (BadName, lambda: archive.put("", ()))):
            with self.assertRaises(error):
                with archive:
                    archive.put("b", ())
                    archive.merge()
                    archive.put("a", ())
                    call()
            self.assertEqual(self.told(archive), before)

    def test_a_caught_error_within(self):
        archive = Archive(Family("ab", ["ab"]))
        with archive:
            archive.put("a", ())
            self.assertRaises(UnknownName, archive.drop, "b")
        self.assertEqual(archive.names, ["a"])

    def test_several_in_a_row(self):
        archive = Archive(Family("ab", ["ab"]))
        for at, name in enumerate("abcdefghij"):
            try:
                with archive:
                    archive.put(name, ())
                    if at % 3 == 1:
                        raise LookupError
            except LookupError:
                pass
        self.assertEqual(archive.names, list("acdfgij"))
        self.assertEqual(archive.parts, [list("acdf"), list("gij")])
        archive.put("k", ())
        archive.put("l", ())
        self.assertEqual(archive.parts, [list("acdf"), list("gijk"), ["l"]])


class WrongArgumentTest(unittest.TestCase):
    def setUp(self):
        self.archive = put_all(Archive(Family("ab", ["ab"])), [("a", ("ab",)), ("b", ())])
        self.archive.stand("a", read_question("'b'"))

    def check(self, error, field, value, call):
        before = (self.archive.names, self.archive.parts, self.archive.changes)
        with self.subTest(value=value):
            with self.assertRaises(error) as caught:
                call()
            self.assertIs(getattr(caught.exception, field), value)
        self.assertEqual((self.archive.names, self.archive.parts, self.archive.changes), before)

    def test_no_family(self):
        for value in (None, 0, True, "ab", ["ab"], {}, read_question("'a'"), self.archive, Family):
            self.check(BadArgument, "value", value, lambda: Archive(value))

    def test_wrong_names(self):
        for name in NO_NAMES:
            for page in ((), *NO_PAGES):
                self.check(BadName, "value", name, lambda: self.archive.put(name, page))
            for question in (read_question("'a'"), *NO_QUESTIONS):
                self.check(BadName, "value", name, lambda: self.archive.stand(name, question))

    def test_unknown_names(self):
        for name in (*NO_NAMES, "c", "aa"):
            for call in (self.archive.drop, self.archive.page, self.archive.found, self.archive.news, self.archive.fall):
                self.check(UnknownName, "name", name, lambda: call(name))

    def test_wrong_pages(self):
        for page in NO_PAGES:
            for name in ("a", "c"):
                self.check(BadPage, "value", page, lambda: self.archive.put(name, page))
        self.assertEqual(self.archive.page("a"), ("ab",))

    def test_wrong_questions(self):
        for question in NO_QUESTIONS:
            self.check(BadArgument, "value", question, lambda: self.archive.answers(question))
            self.check(BadArgument, "value", question, lambda: self.archive.find(question))
            self.check(BadArgument, "value", question, lambda: self.archive.stand("c", question))
            self.assertRaises(UnknownName, self.archive.news, "c")


if __name__ == "__main__":
    unittest.main()
