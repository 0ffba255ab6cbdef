"""Every command of a console in right and wrong forms (19)."""

import random
import unittest
from unittest import mock

from surelyhas.archives import Archive
from surelyhas.choices import cheapest_sharp
from surelyhas.console import Console
from surelyhas.errors import BadCommand, BadPage, BadPieces, BadQuestion, BadText, HasError, UnknownName
from surelyhas.families import Family
from surelyhas.journals import journal
from surelyhas.questions import read_question
from surelyhas.words import show_page
from tests.cases import FAMILIES, NAMES, drawn_page, drawn_question
from tests.reckoned import bracketed

START = ("family ab ab,bb", "put one =abb/=a", "put two -", "put three =ba/=", "put four =bb", "put five =ab")
RIGHT = ("family ab ab,bb", "family ab -", "put one =ab", "put one -", "drop one", "merge", "names", "list ab", "parts",
         "ask 'ab'", "find 'ab'", "lists 'ab'")
NO_FAMILIES = ("family", "family ", "family ab", "family ab ", "family  ab ab", "family ab  ab", "family ab ab ", " family ab ab",
               "family ab ab b", "family ba ab", "family aa a", "family abcdefg a", "family  -", "family - -", "family Ab ab",
               "family ab Ab", "family ab abab", "family ab ac", "family ab c", "family ab ab,ab", "family ab ab,", "family ab ,ab",
               "family ab ,", "family ab ab,,bb", "family ab ab, bb", "family ab --", "family ab -,ab", "family ab ab,-",
               "family ab a,b,aa,ab,ba,bb,aaa,aab,aba", "family ab ab\n", "family ab\tab", "Family ab ab", "FAMILY ab ab",
               "families ab ab", "familyab ab", "family ab 'ab'", "family \u00e4 -")
NO_CHANGES = ("put", "put ", "put one", "put one ", "put  one =ab", "put one  =ab", "put one =ab ", " put one =ab", "put =ab",
              "put  =ab", "put one ab", "put one ab/=b", "put one =ab/b", "put one =ab/", "put one /", "put one /=ab", "put one --",
              "put one -/=ab", "put one =AB", "put one =a b", "put one =ab\n", "put One =ab", "put abcdefghi =ab", "put one1 =ab",
              "put one,two =ab", "put 'one' =ab", "Put one =ab", "PUT one =ab", "puts one =ab", "put\tone\t=ab",
              "drop", "drop ", "drop  one", "drop one ", " drop one", "drop one two", "drop One", "drop abcdefghi", "drop o1",
              "drop one\n", "Drop one", "DROP one", "dropone", "drops one", "drop one,two", "drop -",
              "merge ", " merge", "merge one", "merge -", "Merge", "MERGE", "merges", "merge\n", "merge  ")
NO_ASKING = ("names ", " names", "names one", "Names", "NAMES", "name", "names\n", "parts ", " parts", "parts one", "Parts",
             "PARTS", "part", "list", "list ", "list  ab", "list ab ", " list ab", "list ab bb", "list abab", "list AB", "list a1",
             "list -", "list 'ab'", "list ab,bb", "List ab", "LIST ab", "list ab\n", "listab",
             "ask", " ask 'ab'", "Ask 'ab'", "ASK 'ab'", "ask'ab'", "asks 'ab'", "ask\t'ab'", "find", " find 'ab'", "Find 'ab'",
             "FIND 'ab'", "find'ab'", "finds 'ab'", "lists", " lists 'ab'", "Lists 'ab'", "LISTS 'ab'", "lists'ab'", "list 'ab' ",
             "", " ", "  ", "-", "ok", "#", "journal", "'ab'", "help", "\n", "family\n", "ask\n'ab'", "answers 'ab'", "page one",
             "news one", "stand one 'ab'", "fall one")
NO_TEXTS = (None, 0, 1, True, False, b"names", b"merge", ["names"], ("names",), (), [], {}, {"names": 1}, {"names"}, object(),
            1.5, mock.ANY, Console)


def console_with(*lines):
    console = Console()
    for line in lines:
        console.execute(line)
    return console


def state(console):
    archive = console.archive
    return None if archive is None else (archive.family.signs, archive.family.pieces, archive.changes, archive.parts,
                                         [archive.page(name) for name in archive.names])


class CommandTest(unittest.TestCase):
    def check(self, console, line, told):
        answer = console.execute(line)
        self.assertIs(type(answer), str)
        self.assertEqual(answer, told, line)

    def test_every_command(self):
        console = Console()
        self.assertIsNone(console.archive)
        for line in START:
            self.check(console, line, "ok")
        for line, told in (("names", "five four one three two"), ("parts", "four,one,three,two five"), ("list ab", "five one"),
                           ("list bb", "four one"), ("ask 'abb'", "five=not four=not one=open three=not two=not"),
                           ("ask 'ab' | 'bb'", "five=surely four=surely one=surely three=not two=not"),
                           ("find 'ab'", "five one"), ("find 'abb'", "one"), ("find ~''", "two"), ("find 'z'", "-"),
                           ("lists 'ab'", "ab"), ("lists 'ab' & 'bb'", "ab bb"), ("lists 'bb' & 'ab'", "ab bb"),
                           ("lists 'z'", "-"), ("lists 'bb'", "bb"), ("merge", "ok"), ("parts", "five,four,one,three,two"),
                           ("put six -", "ok"), ("parts", "five,four,one,three,two six"), ("drop one", "ok"),
                           ("names", "five four six three two"), ("list bb", "four"), ("put four -", "ok"), ("list bb", "-"),
                           ("parts", "five,three,two four,six")):
            self.check(console, line, told)

    def test_an_empty_archive(self):
        for family in ("family ab ab,bb", "family a -"):
            console = console_with(family)
            for line in ("names", "parts", "ask 'ab'", "find 'ab'", "lists 'ab'"):
                self.check(console, line, "-")
            self.check(console, "merge", "ok")
            self.check(console, "parts", "-")
        self.check(console_with("family ab ab,bb"), "list bb", "-")

    def test_families(self):
        for signs, pieces, _ in FAMILIES:
            console = Console()
            self.check(console, f"family {signs} {','.join(pieces) or '-'}", "ok")
            self.assertEqual(console.archive, Archive(Family(signs, pieces)))
        self.check(console, "family abcdef a,b,aa,ab,ba,bb,aaa,fed", "ok")
        self.assertEqual(len(console.archive.family.pieces), 8)

    def test_spaces_of_questions(self):
        console = console_with(*START)
        for text in ("'ab'", " 'ab'", "'ab' ", "   'ab'  ", "('ab')", "( 'ab' )", "'ab'|'ab'", "~ ~'ab'"):
            self.check(console, f"find {text}", "five one")
            self.check(console, f"lists {text}", "ab")
            self.check(console, f"ask {text}", "five=surely four=not one=surely three=not two=not")

    def test_against_archives(self):
        chooser = random.Random(19)
        for signs, pieces, _ in FAMILIES * 4:
            console = console_with(f"family {signs} {','.join(pieces) or '-'}")
            archive = Archive(Family(signs, pieces))
            for _ in range(12):
                name, page = chooser.choice(NAMES), drawn_page(chooser, signs)
                if name in archive and chooser.random() < 0.4:
                    self.check(console, f"drop {name}", "ok")
                    archive.drop(name)
                elif chooser.random() < 0.2:
                    self.check(console, "merge", "ok")
                    archive.merge()
                else:
                    self.check(console, f"put {name} {show_page(page)}", "ok")
                    archive.put(name, page)
                self.check(console, "names", " ".join(archive.names) or "-")
                self.check(console, "parts", " ".join(",".join(part) for part in archive.parts) or "-")
                for piece in pieces:
                    self.check(console, f"list {piece}", " ".join(archive.listed(piece)) or "-")
            self.assertEqual(journal(console.archive), journal(archive))
            for text in [bracketed(drawn_question(chooser, pieces)) for _ in range(3)]:
                question = read_question(text)
                answers = archive.answers(question)
                self.check(console, f"ask {text}", " ".join(f"{name}={answers[name]}" for name in archive.names) or "-")
                self.check(console, f"find {text}", " ".join(archive.find(question)[0]) or "-")
                self.check(console, f"lists {text}", " ".join(cheapest_sharp(archive, question)[0]) or "-")

    def test_a_second_family(self):
        console = console_with(*START)
        first = console.archive
        self.check(console, "family abc c", "ok")
        self.assertIsNot(console.archive, first)
        self.assertEqual((console.archive, len(first)), (Archive(Family("abc", ["c"])), 5))
        self.check(console, "names", "-")
        self.check(console, "put one =c", "ok")
        self.assertEqual(first.page("one"), ("abb", "a"))
        self.assertEqual(console.archive.changes, [("put", "one", ("c",))])
        self.check(console, "family abc c", "ok")
        self.assertEqual(console.archive.names, [])

    def test_the_archive_changed_by_its_own_methods(self):
        console = console_with(*START)
        self.assertIs(type(console.archive), Archive)
        self.assertIs(console.archive, console.archive)
        console.archive.drop("one")
        console.archive.put("zz", ("bb",))
        self.check(console, "names", "five four three two zz")
        self.check(console, "list bb", "four zz")
        console.archive.merge()
        self.check(console, "parts", "five,four,three,two,zz")
        self.check(console, "drop zz", "ok")
        self.assertFalse("zz" in console.archive)
        with self.assertRaises(AttributeError):
            console.archive = None

    def test_two_consoles(self):
        one, two = Console(), Console()
        one.execute("family ab ab")
        self.assertIsNone(two.archive)


class WrongTest(unittest.TestCase):
    def check(self, console, line, error, field, value):
        before = state(console)
        with self.subTest(line=line):
            with self.assertRaises(error) as caught:
                console.execute(line)
            self.assertIs(type(caught.exception), error)
            told = getattr(caught.exception, field)
            self.assertTrue(told is value or (type(told) is type(value) and told == value), told)
            self.assertEqual(state(console), before)

    def test_wrong_forms(self):
        for console in (Console(), console_with(*START)):
            for line in (*NO_FAMILIES, *NO_CHANGES, *NO_ASKING, *NO_TEXTS):
                self.check(console, line, BadCommand, "line", line)

    def test_spaces_around_right_commands(self):
        console = console_with(*START)
        for line in RIGHT:
            wrong = [" " + line, "  " + line, line.upper(), line.capitalize(), "\n" + line, "\t" + line]
            if "'" not in line:
                wrong += [line + " ", line + "\n", line + "  ", line.replace(" ", "  ") + " "]
            for one in wrong:
                self.check(console, one, BadCommand, "line", one)

    def test_ahead_of_the_first_family(self):
        console = Console()
        for line in (*RIGHT[2:], "ask ", "find nothing", "lists 'a", "list b", "drop zz", "put one =z"):
            self.check(console, line, BadCommand, "line", line)
        self.check(console, "family ab ab,ab", BadCommand, "line", "family ab ab,ab")
        self.assertIsNone(console.archive)
        console.execute("family ab ab")
        self.assertEqual(console.execute("names"), "-")

    def test_no_questions(self):
        console = console_with(*START)
        for text, error, field, value in (("", BadText, "at", 0), (" ", BadText, "at", 1), ("ab", BadText, "at", 0),
                                          ("'ab' &", BadText, "at", 6), ("'ab", BadText, "at", 3), ("'[a'", BadText, "at", 1),
                                          ("'ab'\n", BadText, "at", 4), ("'a' 'b'", BadText, "at", 4),
                                          ("'a'|'b'|'c'|'d'|'e'", BadQuestion, "value", 5)):
            for word in ("ask", "find", "lists"):
                self.check(console, f"{word} {text}", error, field, value)

    def test_errors_of_what_a_command_does(self):
        console = console_with(*START)
        self.check(console, "drop zz", UnknownName, "name", "zz")
        self.check(console, "put one =c", BadPage, "value", ("c",))
        self.check(console, "put zz =ab/=/=abz", BadPage, "value", ("ab", "", "abz"))
        self.check(console, "list b", BadPieces, "value", "b")
        self.check(console, "list zzz", BadPieces, "value", "zzz")
        console.execute("drop one")
        self.check(console, "drop one", UnknownName, "name", "one")

    def test_a_wrong_family_leaves_the_archive(self):
        console = console_with(*START)
        archive = console.archive
        for line in (*NO_FAMILIES, *NO_TEXTS):
            self.assertRaises(HasError, console.execute, line)
            self.assertIs(console.archive, archive)
        self.assertEqual(console.execute("names"), "five four one three two")


if __name__ == "__main__":
    unittest.main()
