"""The pieces that must be kept against a going through all choices and all found (13, and f of 3)."""

import random
import unittest
from unittest import mock

from surelyhas.answers import answer_of
from surelyhas.errors import BadArgument, BadPieces, BadQuestion, LimitExceeded
from surelyhas.families import Family
from surelyhas.keeping import check_kept, do_keep, kept_pieces
from surelyhas.questions import read_question
from surelyhas.worlds import can_be_had
from tests.cases import FAMILIES, drawn_question
from tests.reckoned import choices_of, question_of
from tests.wrong import FAMILY, NO_CHOICE, NO_FAMILY, NO_QUESTIONS, QUESTION, TOO_MANY, WORDS, check_wrong

LARGER = (("ab", ["ab", "b", "ba", "aa", "bb"], 6), ("abc", ["a", "bc", "cb", "aab", "c", "abc"], 5),
          ("ab", ["a", "b", "ab", "ba", "aab", "bba"], 6))


class Brute:
    """What is kept by all choices, by the words of point 13."""

    def __init__(self, family, questions):
        self.pieces = family.pieces
        self.questions = questions
        self.choices = [tuple(choice) for choice in choices_of(self.pieces)]
        self.had = [found for found in choices_of(self.pieces) if can_be_had(family, found)]
        self.whole = [[answer_of(family, found, question) for found in self.had] for question in questions]
        self.lost = {choice: self.losses(family, choice) for choice in self.choices}

    def losses(self, family, choice):
        """All (number of a question, set of found) for which the answers are unlike."""
        cut = Family(family.signs, list(choice))
        told = []
        for number, question in enumerate(self.questions):
            parts = {tuple(piece for piece in found if piece in choice) for found in self.had}
            answers = {part: answer_of(cut, list(part), question) for part in parts}
            told += [(number, set(found)) for found, whole in zip(self.had, self.whole[number])
                     if answers[tuple(piece for piece in found if piece in choice)] != whole]
        return told

    def kept(self):
        """The kept pieces, and all choices ahead of them."""
        at = next(at for at, choice in enumerate(self.choices) if not self.lost[choice])
        return self.choices[at], self.choices[:at]

    def is_loss(self, choice, value):
        if type(value) is not tuple or len(value) != 2 or type(value[0]) is not int or type(value[1]) is not list:
            return False
        number, found = value
        if any(type(piece) is not str for piece in found) or len(set(found)) != len(found):
            return False
        return (number, set(found)) in self.lost[choice]

    def are_right(self, choice, reasons):
        """Whether any values are the kept pieces and right reasons."""
        right, ahead = self.kept()
        if type(choice) is not list or any(type(piece) is not str for piece in choice) or tuple(choice) != right:
            return False
        if type(reasons) is not dict or len(reasons) != len(ahead):
            return False
        if any(type(key) is not tuple or any(type(piece) is not str for piece in key) for key in reasons):
            return False
        return reasons.keys() == set(ahead) and all(self.is_loss(key, value) for key, value in reasons.items())


def cases(seed, many, families=FAMILIES):
    """Families with lists of none to three questions, some with the same one twice."""
    chooser = random.Random(seed)
    told = []
    for _ in range(many):
        signs, pieces, _ = chooser.choice(families)
        questions = [question_of(drawn_question(chooser, pieces * 5)) for _ in range(chooser.choice((0, 1, 1, 2, 3)))]
        if questions and chooser.random() < 0.3:
            questions.insert(chooser.randrange(2), questions[-1])
        told.append((Family(signs, pieces), questions))
    return told


class KeepTest(unittest.TestCase):
    def test_all_choices(self):
        chooser = random.Random(13)
        seen = set()
        for family, questions in cases(13, 150) + cases(23, 8, LARGER):
            brute = Brute(family, questions)
            given = list(questions)
            for choice in brute.choices:
                mixed = chooser.sample(choice, len(choice))
                before = list(mixed)
                told = do_keep(family, given, mixed)
                self.assertIs(told, not brute.lost[choice])
                self.assertEqual(mixed, before)
                seen.add(told)
            self.assertIs(do_keep(family, questions, family.pieces), True)
            self.assertEqual(given, questions)
        self.assertEqual(seen, {True, False})

    def test_no_questions(self):
        for family, _ in cases(33, 10):
            for choice in choices_of(family.pieces):
                self.assertIs(do_keep(family, [], choice), True)
            self.assertEqual(kept_pieces(family, []), ([], {}))
            self.assertIs(check_kept(family, [], [], {}), True)

    def test_found_that_cannot_be_had_do_not_count(self):
        family = Family("ab", ["a", "ab"])
        # A page with ab has a.
        self.assertIs(do_keep(family, [read_question("'ab'")], ["ab"]), True)
        self.assertIs(do_keep(family, [read_question("'a'")], ["ab"]), False)
        self.assertIs(do_keep(family, [read_question("'a' & 'ab'")], ["ab"]), True)


class KeptTest(unittest.TestCase):
    def test_against_all_choices(self):
        seen = set()
        for family, questions in cases(43, 250) + cases(53, 12, LARGER):
            brute = Brute(family, questions)
            choice, reasons = told = kept_pieces(family, questions)
            right, ahead = brute.kept()
            self.assertEqual([type(told), type(choice), type(reasons)], [tuple, list, dict])
            self.assertEqual(tuple(choice), right)
            self.assertTrue(brute.are_right(choice, reasons))
            self.assertIs(check_kept(family, questions, choice, reasons), True)
            seen.add((len(choice), len(ahead) > 0))
        self.assertTrue({(0, False), (1, True), (2, True), (3, True)} <= seen, seen)

    def test_the_first_of_as_many(self):
        family = Family("ab", ["ba", "ab", "b", "a"])
        for texts, choice in ((["'ab'"], ["ab"]), (["'a'", "'ba'"], ["ba", "a"]), (["'ab'", "'ba'"], ["ba", "ab"]),
                              (["'a' | 'b'"], ["b", "a"]), (["'z'", "~'z'"], []), (["'b'", "'a'", "'b'"], ["b", "a"])):
            told, reasons = kept_pieces(family, [read_question(text) for text in texts])
            self.assertEqual(told, choice)
            order = [tuple(one) for one in choices_of(family.pieces)]
            self.assertEqual(set(reasons), set(order[:order.index(tuple(choice))]))

    def test_what_was_told_changed_afterwards(self):
        for family, questions in cases(63, 40):
            told, again = kept_pieces(family, questions), kept_pieces(family, questions)
            self.assertEqual(told, again)
            lists = [told[0], again[0], *[value[1] for _, reasons in (told, again) for value in reasons.values()]]
            self.assertEqual(len({id(one) for one in lists}), len(lists))
            told[0].append("zz")
            for _, found in told[1].values():
                found.append("zz")
            told[1].clear()
            self.assertEqual(kept_pieces(family, questions), again)


class CheckTest(unittest.TestCase):
    def check(self, family, questions, brute, values):
        before = repr(values), len(questions)
        right = brute.are_right(*values)
        self.assertIs(check_kept(family, questions, *values), right, values)
        self.assertEqual((repr(values), len(questions)), before)
        return right

    def test_reasons_of_other_makers(self):
        chooser = random.Random(73)
        other = 0
        for family, questions in cases(73, 150) + cases(83, 6, LARGER):
            brute = Brute(family, questions)
            choice, ahead = brute.kept()
            reasons = {}
            for key in chooser.sample(ahead, len(ahead)):
                number, found = chooser.choice(brute.lost[key])
                reasons[key] = (number, chooser.sample(sorted(found), len(found)))
            other += reasons != kept_pieces(family, questions)[1]
            self.assertTrue(self.check(family, questions, brute, (list(choice), reasons)))
        self.assertGreater(other, 50)

    def test_other_found(self):
        """Each reason put in the place of another one, for all questions and all lists of pieces."""
        chooser = random.Random(93)
        seen = {True: 0, False: 0}
        for family, questions in cases(93, 80):
            brute = Brute(family, questions)
            choice, reasons = kept_pieces(family, questions)
            for key in chooser.sample(list(reasons), min(2, len(reasons))):
                for number in range(-1, len(questions) + 1):
                    for found in choices_of(family.pieces):
                        value = {**reasons, key: (number, found[::-1])}
                        seen[self.check(family, questions, brute, (choice, value))] += 1
        self.assertGreater(min(seen.values()), 100)

    def test_values_of_other_kinds(self):
        chooser = random.Random(103)
        for family, questions in cases(103, 100):
            brute = Brute(family, questions)
            choice, reasons = kept_pieces(family, questions)
            for key in chooser.sample(list(reasons), min(2, len(reasons))):
                number, found = reasons[key]
                for value in (None, 0, True, "", (), (number,), (number, found, found), [number, found], (found, number),
                              (bool(number), found), (float(number), found), (str(number), found), (None, found),
                              (number, tuple(found)), (number, dict.fromkeys(found)), (number, set(found)), (number, None),
                              (number, "".join(found)), (number, found + ["zz"]), (number, found + found[:1]),
                              (number, found + [None]), (number, [[piece] for piece in found]), (number, mock.ANY), mock.ANY,
                              (mock.ANY, found), (number, [mock.ANY] * len(found)), (10 ** 30, found), {number: found}):
                    self.check(family, questions, brute, (choice, {**reasons, key: value}))

    def test_other_keys(self):
        chooser = random.Random(113)
        for family, questions in cases(113, 100):
            brute = Brute(family, questions)
            choice, reasons = kept_pieces(family, questions)
            one = (0, [])
            values = [None, [], 0, True, "", mock.ANY, {}, list(reasons), list(reasons.items()), tuple(reasons.items()),
                      dict(reversed(list(reasons.items()))), {**reasons, tuple(choice): one}, {**reasons, ("zz",): one},
                      {**reasons, None: one}, {**reasons, tuple(family.pieces): one}]
            for key in chooser.sample(list(reasons), min(2, len(reasons))):
                rest = {other: value for other, value in reasons.items() if other != key}
                values += [rest, *[{**rest, other: reasons[key]} for other in (
                    "".join(key), key[::-1], key + key[:1], key + ("zz",), frozenset(key), None, 0, tuple(choice))]]
            for value in values:
                self.check(family, questions, brute, (choice, value))

    def test_other_choices(self):
        for family, questions in cases(123, 80):
            brute = Brute(family, questions)
            choice, reasons = kept_pieces(family, questions)
            for value in (*map(list, brute.choices), *brute.choices, choice[::-1], choice * 2, choice + ["zz"], None, 0, True,
                          "", {}, dict.fromkeys(choice), set(choice), "".join(choice), [None], [mock.ANY] * len(choice),
                          mock.ANY, [[piece] for piece in choice]):
                self.check(family, questions, brute, (value, reasons))

    def test_true_in_the_place_of_one(self):
        family, questions = Family("ab", ["ab"]), [read_question("'z'"), read_question("'ab'")]
        self.assertEqual(kept_pieces(family, questions)[0], ["ab"])
        for number, right in ((1, True), (True, False), (0, False), (1.0, False)):
            self.assertIs(check_kept(family, questions, ["ab"], {(): (number, ["ab"])}), right)
        self.assertIs(check_kept(family, questions[1:], ["ab"], {(): (0, [])}), True)
        self.assertIs(check_kept(family, questions[1:], ["ab"], {(): (False, [])}), False)


class ArgumentTest(unittest.TestCase):
    def test_wrong_arguments(self):
        families, questions, choices = (FAMILY, NO_FAMILY + TOO_MANY), ([QUESTION], NO_QUESTIONS), (["b"], NO_CHOICE)
        check_wrong(self, do_keep, [families, questions, choices])
        check_wrong(self, kept_pieces, [families, questions])
        check_wrong(self, lambda *two: check_kept(*two, [], {}), [families, questions])
        check_wrong(self, lambda *two: check_kept(*two, None, mock.ANY), [families, questions])

    def test_which_error_comes_first(self):
        seven, six = [Family("ab", WORDS[:many]) for many in (7, 6)]
        for call in (lambda *told: do_keep(*told, ["zz"]), kept_pieces, lambda *told: check_kept(*told, None, None)):
            self.assertRaises(BadArgument, call, None, None)
            self.assertRaises(LimitExceeded, call, seven, None)
            self.assertRaises(LimitExceeded, call, seven, [QUESTION])
            self.assertRaises(BadQuestion, call, six, (QUESTION,))
        self.assertRaises(BadPieces, do_keep, six, [QUESTION], ["zz"])
        self.assertRaises(BadPieces, do_keep, six, [], ["zz"])

    def test_six_pieces_over_six_signs(self):
        family = Family("abcdef", ["ab", "bc", "cd", "de", "abc", "ace"])
        questions = [read_question(text) for text in ("'a.*b' & 'b.*c$'", "'abc' & ~'ed' | 'cde'", "'ace' | 'dc'", "'ab'")]
        choice, reasons = kept_pieces(family, questions)
        self.assertIs(do_keep(family, questions, choice), True)
        self.assertIs(check_kept(family, questions, choice, reasons), True)


if __name__ == "__main__":
    unittest.main()
