"""The next piece against all words (13)."""

import itertools
import random
import unittest

from surelyhas.answers import answer_of
from surelyhas.archives import Archive
from surelyhas.choices import next_piece
from surelyhas.families import Family
from surelyhas.questions import read_question
from tests.cases import FAMILIES, drawn_archive, drawn_question, put_all
from tests.reckoned import question_of
from tests.wrong import FAMILY, NO_ARCHIVE, NO_QUESTION, QUESTION, check_wrong


def words_over(signs):
    return ["".join(word) for many in (1, 2, 3) for word in itertools.product(signs, repeat=many)]


def open_with(archive, question, word):
    """How many pages are open with one word more."""
    family = Family(archive.family.signs, archive.family.pieces + [word])
    found = [family.of(archive.page(name)) for name in archive.names]
    return [answer_of(family, pieces, question) for pieces in found].count("open")


def brute(archive, question):
    """The next piece, gone through all words; and how many words have as few open pages."""
    words = [word for word in words_over(archive.family.signs) if word not in archive.family.pieces]
    if not words or len(archive.family.pieces) == 8:
        return None, 0
    opened = {word: open_with(archive, question, word) for word in words}
    best = min(words, key=lambda word: (opened[word], len(word), word))
    return (best, opened[best]), list(opened.values()).count(opened[best])


class NextPieceTest(unittest.TestCase):
    def test_drawn_archives(self):
        chooser = random.Random(13)
        opened, lengths, several = set(), set(), 0
        for _ in range(150):
            signs, pieces, _ = chooser.choice(FAMILIES)
            archive = drawn_archive(chooser, Family(signs, pieces), chooser.randrange(12))
            question = question_of(drawn_question(chooser, ("ab", "aab", "a.b", "aa|ba", "bb")))
            told = next_piece(archive, question)
            best, equal = brute(archive, question)
            self.assertEqual(told, best, (question.show(), archive.changes))
            if told is not None:
                self.assertEqual([type(told), type(told[0]), type(told[1])], [tuple, str, int])
                opened.add(told[1])
                lengths.add(len(told[0]))
                several += 1 < equal < 10
        self.assertTrue({0, 1, 2} <= opened and {1, 2, 3} == lengths, (opened, lengths))
        self.assertGreater(several, 10)

    def test_which_of_several_words(self):
        archive = put_all(Archive(Family("ab", [])), [("a", ("ab",)), ("b", ("aab", "ba"))])
        # Each word that tells that there is a line is as good: the shortest, of these the first one.
        self.assertEqual(next_piece(archive, read_question("''")), ("a", 0))
        self.assertEqual(next_piece(archive, read_question("'a' & 'b'")), ("ab", 0))
        self.assertEqual(next_piece(archive, read_question("'aab'")), ("aab", 0))
        archive.drop("b")
        # Without aa there is no aab either.
        self.assertEqual(next_piece(archive, read_question("'aab'")), ("aa", 0))
        self.assertEqual(next_piece(archive, read_question("'bab'")), ("ba", 0))
        self.assertEqual(next_piece(archive, read_question("'baaaaab'")), ("aa", 0))

    def test_pages_that_are_not_open(self):
        for pages in ([], [("a", ("ab",))], [("a", ("b",)), ("b", ("ab",)), ("c", ())]):
            archive = put_all(Archive(Family("ab", ["ab"])), pages)
            self.assertEqual(next_piece(archive, read_question("'ab'")), ("a", 0))
            self.assertEqual(next_piece(archive, read_question("'z'")), ("a", 0))
        archive = put_all(Archive(Family("ab", ["a", "b"])), [("a", ("b", "a"))])
        self.assertEqual(next_piece(archive, read_question("~'z'")), ("aa", 0))

    def test_pages_that_stay_open(self):
        archive = put_all(Archive(Family("ab", ["ab"])), [("a", ("ab",)), ("b", ("ab", "a")), ("c", ("b",))])
        self.assertEqual(next_piece(archive, read_question("'^ab$' & '^a$'")), ("a", 2))

    def test_families_of_eight_pieces(self):
        words = words_over("ab")
        for at in range(0, 7, 3):
            archive = put_all(Archive(Family("ab", words[at:at + 8])), [("a", ("ab",)), ("b", ("bbab",))])
            self.assertIsNone(next_piece(archive, read_question("'abba'")))
        archive = put_all(Archive(Family("ab", words[:7])), [("a", ("ab",)), ("b", ("abba",))])
        self.assertEqual(next_piece(archive, read_question("'aab'")), ("aab", 0))

    def test_families_of_all_words(self):
        question = read_question("'aaaa'")
        pages = [("a", ("aaaaa",)), ("b", ("aa",))]
        for pieces in itertools.permutations(("a", "aa", "aaa")):
            self.assertIsNone(next_piece(put_all(Archive(Family("a", list(pieces))), pages), question))
            archive = put_all(Archive(Family("a", list(pieces[:2]))), pages)
            self.assertEqual(next_piece(archive, question), brute(archive, question)[0])
            self.assertEqual(next_piece(archive, question)[0], pieces[2])

    def test_the_archive_stays_as_it_is(self):
        archive = put_all(Archive(Family("ab", ["ab"])), [("a", ("ab",)), ("b", ("aab",))])
        before = (archive.family.pieces, archive.changes, archive.parts, archive.answers(read_question("'aab'")))
        self.assertEqual(next_piece(archive, read_question("'aab'")), next_piece(archive, read_question("'aab'")))
        after = (archive.family.pieces, archive.changes, archive.parts, archive.answers(read_question("'aab'")))
        self.assertEqual(after, before)

    def test_wrong_arguments(self):
        check_wrong(self, next_piece, [(Archive(FAMILY), NO_ARCHIVE), (QUESTION, NO_QUESTION)])
        eight = Archive(Family("ab", words_over("ab")[:8]))
        check_wrong(self, next_piece, [(eight, NO_ARCHIVE), (QUESTION, NO_QUESTION)])


if __name__ == "__main__":
    unittest.main()
