"""Journals against texts that the tests write themselves, and archives recovered from spoilt ones (17, and k of 3)."""

import random
import string
import unittest

from surelyhas.archives import Archive
from surelyhas.errors import BadText
from surelyhas.families import Family
from surelyhas.journals import check_sum, journal, recover
from surelyhas.questions import read_question
from tests.cases import FAMILIES, NAMES, drawn_archive, put_all
from tests.wrong import NO_ARCHIVE, check_wrong


def sum_of(index, line):
    """The check number, character by character."""
    told = 31 * index
    for at in range(len(line)):
        told += ord(line[at]) * (at + 1)
    return told % 1000003


def written(lines):
    """A journal of some lines, each with its right check number."""
    return "".join(f"{line} #{sum_of(index, line)}\n" for index, line in enumerate(lines))


def lines_of(archive):
    """The lines of the journal of an archive, without check numbers."""
    told = [f"family {archive.family.signs} {','.join(archive.family.pieces) or '-'}"]
    for change in archive.changes:
        if change[0] == "put":
            told.append(f"put {change[1]} {'/'.join('=' + line for line in change[2]) or '-'}")
        elif change[0] == "drop":
            told.append(f"drop {change[1]}")
        else:
            told.append("merge")
    return told


def archives(seed, many, most=25):
    chooser = random.Random(seed)
    for _ in range(many):
        signs, pieces, _ = chooser.choice(FAMILIES)
        yield drawn_archive(chooser, Family(signs, pieces), chooser.randrange(most))


def replayed(archive, many):
    """An archive with the first changes of another one."""
    told = Archive(archive.family)
    for kind, *given in archive.changes[:many]:
        getattr(told, kind)(*given)
    return told


class RecoverCase(unittest.TestCase):
    def assert_recovered(self, text, archive, lost):
        """What is recovered of a text is like an archive, with so many characters lost."""
        told, characters = recover(text)
        self.assertIs(type(characters), int)
        self.assertEqual(characters, lost, text)
        if archive is None:
            self.assertIsNone(told)
            return
        self.assertEqual(told, archive)
        self.assertEqual((told.parts, told.changes, told.names), (archive.parts, archive.changes, archive.names))
        self.assertEqual(told.family, archive.family)

    def assert_kept(self, text, archive, many):
        """Of a text only the first lines of the journal of an archive are recovered."""
        kept = written(lines_of(archive)[:many])
        self.assertTrue(text.startswith(kept))
        self.assert_recovered(text, replayed(archive, many - 1) if many else None, len(text) - len(kept))


class CheckSumTest(unittest.TestCase):
    def test_any_text(self):
        chooser = random.Random(17)
        signs = string.ascii_letters + string.digits + " #/=-,\n\t\u00e4\u20ac\U0010ffff\x00'\"\\"
        for _ in range(500):
            line = "".join(chooser.choice(signs) for _ in range(chooser.randrange(40)))
            index = chooser.choice((0, 1, 2, 7, 1000, 32259, 10 ** 7))
            told = check_sum(index, line)
            self.assertIs(type(told), int)
            self.assertEqual(told, sum_of(index, line))

    def test_plain_ones(self):
        self.assertEqual([check_sum(0, ""), check_sum(1, ""), check_sum(0, "a"), check_sum(2, "ab")], [0, 31, 97, 355])
        self.assertEqual(check_sum(0, "\U000f4243"), 0)
        self.assertEqual(check_sum(0, "\U000f4242"), 1000002)
        self.assertEqual(check_sum(1000003, "a"), 97)
        self.assertEqual(check_sum(0, "z" * 50000), 122 * 50000 * 50001 // 2 % 1000003)


class JournalTest(RecoverCase):
    def test_drawn_archives(self):
        for archive in archives(27, 150):
            text = journal(archive)
            self.assertEqual(text, written(lines_of(archive)))
            self.assert_recovered(text, archive, 0)
            self.assertEqual(journal(recover(text)[0]), text)

    def test_words_of_a_journal(self):
        archive = put_all(Archive(Family("abc", ["c", "ab"])), [("one", ("ab", "", "c")), ("two", ()), ("one", ("",))])
        archive.drop("two")
        archive.merge()
        self.assertEqual(journal(archive).split("\n"), [f"{line} #{sum_of(index, line)}" for index, line in enumerate(
            ["family abc c,ab", "put one =ab/=/=c", "put two -", "put one =", "drop two", "merge"])] + [""])
        archive = Archive(Family("az", []))
        archive.merge()
        self.assertEqual(journal(archive), f"family az - #{sum_of(0, 'family az -')}\nmerge #{sum_of(1, 'merge')}\n")

    def test_what_is_no_change_is_not_told(self):
        archive = Archive(Family("ab", ["ab"]))
        archive.stand("one", read_question("'ab'"))
        archive.put("one", ("ab",))
        archive.news("one")
        archive.fall("one")
        try:
            with archive:
                archive.put("two", ())
                raise KeyError
        except KeyError:
            pass
        self.assertEqual(journal(archive), written(["family ab ab", "put one =ab"]))

    def test_wrong_arguments(self):
        check_wrong(self, journal, [(Archive(Family("ab", [])), NO_ARCHIVE)])


class CutTest(RecoverCase):
    def test_cut_off_at_every_place(self):
        for archive in archives(37, 25, 12):
            text = journal(archive)
            for at in range(len(text) + 1):
                self.assert_kept(text[:at], archive, text[:at].count("\n"))

    def test_text_behind_the_last_line_feed(self):
        for archive in archives(47, 15, 8):
            text, many = journal(archive), len(archive.changes) + 1
            line = f"merge #{sum_of(many, 'merge')}"
            for more in ("a", " ", "#", "merge", line, "\r", "\n", "\n\n", "\nmerge\n", line + " \n", " " + line + "\n",
                         line + "\r\n", line + "\x0b", line + "\u2028\n"):
                self.assert_kept(text + more, archive, many)
            archive.merge()
            self.assert_kept(text + line + "\n", archive, many + 1)
            self.assert_kept(text + line + "\n\n", archive, many + 1)

    def test_the_empty_text(self):
        for text in ("", "\n", "a", "\n\n\n", " #0\n", "#0\n", "family", "family ab ab #0\n", "-\n"):
            self.assert_recovered(text, None, len(text))

    def test_no_texts(self):
        for value in (None, 0, True, b"family", ["family ab -"], ("a",), {}, object(), Archive(Family("ab", []))):
            with self.assertRaises(BadText) as caught:
                recover(value)
            self.assertIsNone(caught.exception.at)


class SpoiltTest(RecoverCase):
    def spoilt(self, archive, text, other, at):
        """A text spoilt at a place is recovered up to the last whole line before; where it is the same, wholly."""
        if other == text:
            self.assert_kept(other, archive, len(archive.changes) + 1)
        else:
            self.assert_kept(other, archive, text[:at].count("\n"))

    def test_one_character_replaced(self):
        chooser = random.Random(57)
        for archive in archives(57, 12, 9):
            text = journal(archive)
            for at in range(len(text)):
                for sign in {*chooser.sample(" #/=-,0123456789abcz\nA\u00e4\x00", 6), chr(ord(text[at]) + 1),
                             chr(ord(text[at]) + 1000003), "\n"}:
                    self.spoilt(archive, text, text[:at] + sign + text[at + 1:], at)

    def test_one_character_left_out(self):
        for archive in archives(67, 25, 12):
            text = journal(archive)
            for at in range(len(text)):
                self.spoilt(archive, text, text[:at] + text[at + 1:], at)

    def test_one_character_put_in(self):
        chooser = random.Random(77)
        for archive in archives(77, 12, 9):
            text = journal(archive)
            for at in range(len(text)):
                for sign in chooser.sample(" #/=-,0123456789abcz\n", 5):
                    # A line feed behind a whole line leaves this line as it is.
                    whole = text[:at].count("\n") + (sign == text[at] == "\n")
                    other = text[:at] + sign + text[at:]
                    self.assert_kept(other, archive, whole)

    def test_one_character_exchanged_with_the_next(self):
        for archive in archives(87, 25, 12):
            text = journal(archive)
            for at in range(len(text) - 1):
                self.spoilt(archive, text, text[:at] + text[at + 1] + text[at] + text[at + 2:], at)

    def test_long_lines(self):
        archive = put_all(Archive(Family("ab", ["ab"])), [("one", ("ab" * 3900,)), ("two", ("b",))])
        text = journal(archive)
        for at in (0, 11, 40, 4000, 7850, len(text) - 2):
            for sign in "abz #\n":
                self.spoilt(archive, text, text[:at] + sign + text[at + 1:], at)


class RightNumberTest(RecoverCase):
    """Lines with right check numbers that no journal would have there."""

    def check(self, lines, many, archive=None):
        """Only the first of these lines are recovered."""
        told, _ = recover(written(lines[:many]))
        self.assert_recovered(written(lines), told, len(written(lines)) - len(written(lines[:many])))
        self.assertEqual(told is None, many == 0)
        if told is not None:
            self.assertEqual(lines_of(told), lines[:many])

    def test_wrong_first_lines(self):
        for line in ("family ba ab", "family aa -", "family abcdefg -", "family  -", "family - -", "family ab", "family ab ",
                     "family ab ac", "family ab ab,ab", "family ab ab,", "family ab ,ab", "family ab ab, b", "family ab abab",
                     "family ab ab,,b", "family ab -,a", "family ab a,b,aa,ab,ba,bb,aaa,aab,aba", "family ab ab ba",
                     " family ab ab", "family  ab ab", "family ab  ab", "family ab ab ", "Family ab ab", "FAMILY ab ab",
                     "families ab ab", "family\tab ab", "merge", "put one =ab", "drop one", "", "family aB -", "family ab --",
                     "family a\u00e4 -", "family ab ab\r", "# family ab ab", "family ab ab #", "family ab ab #7"):
            self.check([line, "merge"], 0)

    def test_wrong_changes(self):
        for line in ("family ab ab", "family ab -", "drop two", "drop", "drop ", "drop one ", " drop one", "drop  one",
                     "drop ONE", "Drop one", "drop one one", "drop abcdefghi", "put one =abc", "put one =c", "put one =ab/=c",
                     "put one", "put one ", "put one ab", "put one =ab/", "put one /=ab", "put one =ab/b", "put one =ab//=b",
                     "put one --", "put one -/=a", "put one =-", "put one =ab =b", "put  one =ab", "put one  =ab",
                     "put one =ab ", " put one =ab", "put One =ab", "put abcdefghi =ab", "put  =ab", "put =ab", "PUT one =ab",
                     "put one =AB", "put one =a b", "merge ", " merge", "Merge", "merge one", "merges", "names", "list ab", "",
                     " ", "ask 'ab'", "news one", "stand one 'ab'", "put one =ab\r", "put one =\u00e4", "merge\t", "#", "merge #",
                     "put one =ab #12"):
            self.check(["family ab ab", "put one =ab", line, "merge", "put two -"], 2)

    def test_a_drop_behind_a_drop(self):
        self.check(["family ab ab", "put one =ab", "drop one", "drop one", "merge"], 3)
        self.check(["family ab ab", "drop one", "put one =ab"], 1)
        self.check(["family ab ab", "put one =ab", "put one -", "drop one", "put one =", "drop one", "merge", "merge"], 8)

    def test_wrong_check_numbers(self):
        lines = ["family ab ab", "put one =ab", "merge"]
        for at, line in enumerate(lines):
            right = sum_of(at, line)
            for number in (f"0{right}", f"+{right}", f"-{right}", f" {right}", f"{right} ", f"{right + 1000003}", f"{right}.0",
                           str(right - 1), str(right + 1), "", "#", f"#{right}", f"{right}#", str(right)[:-1], "\u0660",
                           f"{right}\r", str(sum_of(at + 1, line)), str(sum_of(0, line)) if at else "1"):
                text = written(lines[:at]) + f"{line} #{number}\n" + written(lines)[len(written(lines[:at + 1])):]
                told = recover(written(lines[:at]))[0] if at else None
                self.assert_recovered(text, told, len(text) - len(written(lines[:at])))
            for spoilt in (f"{line}#{right}", f"{line}  #{right}", f"{line} # {right}", f"{line} {right}", f"{line}\t#{right}"):
                text = written(lines[:at]) + spoilt + "\n"
                self.assertEqual(recover(text)[1], len(spoilt) + 1)

    def test_lines_left_out_and_exchanged(self):
        # The index counts for the check number, so no line can stand at another place.
        for archive in archives(97, 20, 9):
            parts = journal(archive).split("\n")[:-1]
            for at in range(len(parts)):
                text = "".join(part + "\n" for part in parts[:at] + parts[at + 1:])
                self.assert_kept(text, archive, at)
                if at + 1 < len(parts):
                    text = "".join(part + "\n" for part in [*parts[:at], parts[at + 1], parts[at], *parts[at + 2:]])
                    self.assert_kept(text, archive, at)

    def test_recovered_archives_go_on(self):
        archive = put_all(Archive(Family("ab", ["ab"])), [(name, ("ab",)) for name in NAMES[:5]])
        told, lost = recover(journal(archive) + "put")
        self.assertEqual(lost, 3)
        for one in (archive, told):
            one.drop("a")
            one.put("zz", ("b",))
        self.assertEqual((told, told.parts, journal(told)), (archive, archive.parts, journal(archive)))
        archive.put("m", ())
        self.assertFalse("m" in told)


if __name__ == "__main__":
    unittest.main()
