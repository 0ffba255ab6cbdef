"""Choices of lists against a going through all choices of the tests' own (11, and c, d and h of 3)."""

import random
import unittest
from unittest import mock

from surelyhas.answers import answer_of
from surelyhas.archives import Archive
from surelyhas.choices import answers_by, check_cheapest, cheapest, cheapest_sharp, is_sharp, price_of
from surelyhas.families import Family
from surelyhas.questions import read_question
from tests.cases import FAMILIES, drawn_archive, drawn_question, put_all
from tests.reckoned import choices_of, pieces_in, question_of
from tests.wrong import FAMILY, NO_ARCHIVE, NO_CHOICE, NO_LOOK, NO_QUESTION, QUESTION, check_wrong

MORE_FAMILIES = (*FAMILIES, ("ab", ["ab", "b", "ba", "aa", "bb"], 6), ("abc", ["a", "bc", "cb", "aab", "c", "abc"], 5))
LOOKS = (0, 1, 2, 3, 10 ** 20)


def brute_answers(archive, question, choice):
    """The answers of the family of the chosen pieces, for those of them that the pages have."""
    chosen = [piece for piece in archive.family.pieces if piece in choice]
    family = Family(archive.family.signs, chosen)
    return {name: answer_of(family, pieces_in(archive.page(name), chosen), question) for name in archive.names}


class Brute:
    """What all choices tell of an archive, by the words of point 11."""

    def __init__(self, archive, question):
        self.names = archive.names
        self.choices = [tuple(choice) for choice in choices_of(archive.family.pieces)]
        self.answers = {choice: brute_answers(archive, question, choice) for choice in self.choices}
        self.whole = self.answers[tuple(archive.family.pieces)]
        self.listed = {piece: [name for name in self.names if pieces_in(archive.page(name), [piece])]
                       for piece in archive.family.pieces}

    def price(self, choice, look):
        opened = [name for name in self.names if self.answers[choice][name] == "open"]
        return sum(len(self.listed[piece]) for piece in choice) + look * len(opened)

    def less_sharp(self, choice):
        return [name for name in self.names if self.answers[choice][name] == "open" and self.whole[name] != "open"]

    def before(self, look):
        """All choices by price, number of pieces and order."""
        return sorted(self.choices, key=lambda choice: (self.price(choice, look), len(choice), self.choices.index(choice)))

    def cheapest_sharp(self):
        order = self.before(0)
        at = next(at for at, choice in enumerate(order) if not self.less_sharp(choice))
        reasons = {choice: self.less_sharp(choice)[0] for choice in order[:at]}
        return list(order[at]), self.price(order[at], 0), reasons

    def are_right(self, choice, told, reasons):
        """Whether any values are the cheapest sharp choice, its price and right reasons."""
        right, price, first = self.cheapest_sharp()
        if type(choice) is not list or any(type(piece) is not str for piece in choice) or choice != right:
            return False
        if type(told) is not int or told != price or type(reasons) is not dict:
            return False
        if any(type(key) is not tuple or any(type(piece) is not str for piece in key) for key in reasons):
            return False
        return reasons.keys() == first.keys() and all(
            type(name) is str and name in self.less_sharp(key) for key, name in reasons.items())


def cases(seed, many, most_pieces=4):
    """Archives behind drawn changes, with a question."""
    chooser = random.Random(seed)
    told = []
    while len(told) < many:
        signs, pieces, _ = chooser.choice(MORE_FAMILIES)
        if len(pieces) <= most_pieces:
            archive = drawn_archive(chooser, Family(signs, pieces), chooser.randrange(14))
            told.append((archive, question_of(drawn_question(chooser, pieces * 8))))
    return told


class AnswerTest(unittest.TestCase):
    def test_all_choices(self):
        chooser = random.Random(11)
        seen = set()
        for archive, question in cases(11, 150):
            brute = Brute(archive, question)
            for choice in brute.choices:
                given = chooser.sample(choice, len(choice))
                before = list(given)
                told = answers_by(archive, question, given)
                self.assertEqual(told, brute.answers[choice])
                self.assertIs(type(told), dict)
                sharp = is_sharp(archive, question, given)
                self.assertIs(sharp, not brute.less_sharp(choice))
                seen |= {sharp, *told.values()}
                for look in LOOKS:
                    price = price_of(archive, question, given, look)
                    self.assertIs(type(price), int)
                    self.assertEqual(price, brute.price(choice, look))
                self.assertEqual(price_of(archive, question, given), brute.price(choice, 0))
                self.assertEqual(given, before)
            self.assertEqual(answers_by(archive, question, archive.family.pieces), archive.answers(question))
        self.assertEqual(seen, {True, False, "surely", "not", "open"})

    def test_more_pieces_are_never_less_sharp(self):
        for archive, question in cases(21, 60, 3):
            choices = choices_of(archive.family.pieces)
            answers = {tuple(choice): answers_by(archive, question, choice) for choice in choices}
            for choice in answers:
                for more in answers:
                    if set(choice) <= set(more):
                        for name in archive.names:
                            self.assertIn(answers[choice][name], ("open", answers[more][name]))

    def test_archives_without_pages_and_families_without_pieces(self):
        question = read_question("'ab' | ~'b'")
        empty = Archive(Family("ab", ["ab", "b"]))
        for choice in ([], ["b"], ["b", "ab"]):
            self.assertEqual(answers_by(empty, question, choice), {})
            self.assertIs(is_sharp(empty, question, choice), True)
            self.assertEqual(price_of(empty, question, choice, 7), 0)
        self.assertEqual(cheapest_sharp(empty, question), ([], 0, {}))
        self.assertEqual(cheapest(empty, question, 9), ([], 0, {("ab",): 0, ("b",): 0, ("ab", "b"): 0}))
        bare = put_all(Archive(Family("ab", [])), [("one", ("ab",)), ("two", ())])
        self.assertEqual(answers_by(bare, question, []), {"one": "open", "two": "open"})
        self.assertEqual((is_sharp(bare, question, []), price_of(bare, question, [], 3)), (True, 6))
        self.assertEqual((cheapest_sharp(bare, question), cheapest(bare, question, 4)), (([], 0, {}), ([], 8, {})))

    def test_behind_changes_of_an_archive(self):
        archive = put_all(Archive(Family("ab", ["a", "ab", "bb"])), [("a", ("ab",)), ("b", ("bb",)), ("c", ("ba",))])
        question = read_question("'ab'")
        self.assertEqual(cheapest_sharp(archive, question), (["ab"], 1, {(): "a"}))
        archive.put("a", ("bb", "b"))
        archive.drop("c")
        archive.merge()
        self.assertEqual(cheapest_sharp(archive, question), (["a"], 0, {(): "a"}))
        self.assertEqual(price_of(archive, question, ["bb", "a"], 5), 2)
        archive.put("d", ("abb",))
        self.assertEqual(answers_by(archive, question, ["a", "bb"]), {"a": "not", "b": "not", "d": "open"})
        self.assertIs(is_sharp(archive, question, ["bb", "a"]), False)

    def test_what_was_told_changed_afterwards(self):
        for archive, question in cases(31, 30):
            for call in (lambda: answers_by(archive, question, archive.family.pieces[:1]),
                         lambda: cheapest_sharp(archive, question)[2], lambda: cheapest(archive, question, 1)[2],
                         lambda: cheapest_sharp(archive, question)[0], lambda: cheapest(archive, question, 1)[0]):
                told, again = call(), call()
                self.assertEqual(told, again)
                self.assertIsNot(told, again)
                told.clear()
                self.assertEqual(call(), again)


class CheapestTest(unittest.TestCase):
    def test_cheapest_sharp(self):
        seen = set()
        for archive, question in cases(41, 300) + cases(51, 25, 6):
            brute = Brute(archive, question)
            choice, price, reasons = told = cheapest_sharp(archive, question)
            self.assertEqual(told, brute.cheapest_sharp())
            self.assertEqual([type(told), type(choice), type(price), type(reasons)], [tuple, list, int, dict])
            self.assertIs(is_sharp(archive, question, choice), True)
            self.assertTrue(brute.are_right(*told))
            self.assertIs(check_cheapest(archive, question, *told), True)
            seen.add(len(choice))
        self.assertTrue({0, 1, 2} <= seen, seen)

    def test_cheapest_for_a_look(self):
        seen = set()
        for archive, question in cases(61, 120) + cases(71, 15, 6):
            brute = Brute(archive, question)
            for look in LOOKS:
                choice, price, reasons = told = cheapest(archive, question, look)
                first, *others = brute.before(look)
                self.assertEqual(told, (list(first), brute.price(first, look),
                                        {other: brute.price(other, look) for other in others}))
                self.assertEqual([type(choice), type(price), type(reasons)], [list, int, dict])
                seen.add(len(choice))
        self.assertTrue({0, 1, 2} <= seen, seen)

    def test_order_among_equal_prices(self):
        archive = put_all(Archive(Family("ab", ["bb", "aa", "ab", "ba"])), [("a", ("aab",)), ("b", ("bba",))])
        question = read_question("'aa' & 'ab' | 'ba' & 'bb'")
        choice, price, reasons = cheapest_sharp(archive, question)
        self.assertEqual((choice, price, len(reasons)), (["bb", "aa", "ab", "ba"], 4, 15))
        self.assertEqual((choice, price, reasons), Brute(archive, question).cheapest_sharp())
        empty = put_all(Archive(Family("ab", ["bb", "aa"])), [("a", ("a",))])
        # All choices without the one page have the price 0, the fewest pieces come first.
        self.assertEqual(cheapest(empty, read_question("'b'"), 0), ([], 0, {("bb",): 0, ("aa",): 0, ("bb", "aa"): 0}))
        self.assertEqual(cheapest_sharp(empty, read_question("'bb' | 'aa'")),
                         (["bb", "aa"], 0, {(): "a", ("bb",): "a", ("aa",): "a"}))

    def test_eight_pieces(self):
        family = Family("ab", ["a", "b", "ab", "ba", "aa", "bb", "aab", "abb"])
        archive = put_all(Archive(family), [("a", ("aabb",)), ("b", ("ba", "b")), ("c", ("abab", "bb")), ("d", ())])
        for text in ("'aabb'", "'aab' & ~'bb'", "'^a' | 'ba'", "'ab' & 'bb' & ~'aa'"):
            question = read_question(text)
            brute = Brute(archive, question)
            told = cheapest_sharp(archive, question)
            self.assertEqual(told, brute.cheapest_sharp())
            self.assertIs(check_cheapest(archive, question, *told), True)
            first, *others = brute.before(2)
            self.assertEqual(cheapest(archive, question, 2),
                             (list(first), brute.price(first, 2), {other: brute.price(other, 2) for other in others}))


class CheckTest(unittest.TestCase):
    def check(self, archive, question, brute, values):
        """check_cheapest tells what the tests' own checker does, and changes nothing."""
        before = repr(values)
        right = brute.are_right(*values)
        self.assertIs(check_cheapest(archive, question, *values), right, values)
        self.assertEqual(repr(values), before)
        return right

    def test_other_pages_in_the_reasons(self):
        chooser = random.Random(81)
        other = 0
        for archive, question in cases(81, 200):
            brute = Brute(archive, question)
            choice, price, first = brute.cheapest_sharp()
            reasons = {key: chooser.choice(brute.less_sharp(key)) for key in chooser.sample(list(first), len(first))}
            other += reasons != first
            self.assertTrue(self.check(archive, question, brute, (choice, price, reasons)))
            for key in list(reasons)[:3]:
                for name in archive.names:
                    self.check(archive, question, brute, (choice, price, {**reasons, key: name}))
        self.assertGreater(other, 30)

    def test_other_choices(self):
        for archive, question in cases(91, 80):
            brute = Brute(archive, question)
            choice, price, reasons = brute.cheapest_sharp()
            pieces = archive.family.pieces
            for value in (*map(list, brute.choices), *brute.choices, choice[::-1], choice + choice[:1], choice + ["zz"],
                          choice[1:], tuple(choice), None, "", "".join(choice), {}, dict.fromkeys(choice), 0, True, [None],
                          [0], [[piece] for piece in choice], [mock.ANY] * len(choice), mock.ANY, pieces * 2, set(choice)):
                self.check(archive, question, brute, (value, price, reasons))

    def test_other_prices(self):
        for archive, question in cases(101, 80):
            brute = Brute(archive, question)
            choice, price, reasons = brute.cheapest_sharp()
            for value in (price + 1, price - 1, -price, float(price), str(price), True, False, None, [price], (price,), {},
                          b"1", mock.ANY, 10 ** 30):
                self.check(archive, question, brute, (choice, value, reasons))

    def test_true_in_the_place_of_one(self):
        archive = put_all(Archive(Family("ab", ["ab"])), [("a", ("ab",))])
        question = read_question("'ab'")
        self.assertEqual(cheapest_sharp(archive, question), (["ab"], 1, {(): "a"}))
        self.assertIs(check_cheapest(archive, question, ["ab"], True, {(): "a"}), False)
        self.assertIs(check_cheapest(archive, question, ["ab"], 1, {(): "a"}), True)
        archive.drop("a")
        self.assertIs(check_cheapest(archive, question, [], False, {}), False)
        self.assertIs(check_cheapest(archive, question, [], 0, {}), True)

    def test_other_reasons(self):
        chooser = random.Random(111)
        seen = {True: 0, False: 0}
        for archive, question in cases(111, 150):
            brute = Brute(archive, question)
            choice, price, reasons = brute.cheapest_sharp()
            values = [None, [], list(reasons), list(reasons.items()), tuple(reasons), 0, True, "", mock.ANY, {}, {1: 1},
                      dict(reversed(list(reasons.items()))), {**reasons, tuple(choice): "a"}, {**reasons, ("zz",): "a"},
                      {**reasons, None: "a"}, {**reasons, tuple(archive.family.pieces): "a"}]
            for key in chooser.sample(list(reasons), min(2, len(reasons))):
                rest = {other: name for other, name in reasons.items() if other != key}
                values += [rest, {**rest, "".join(key): reasons[key]}, {**rest, key[::-1]: reasons[key]},
                           {**rest, frozenset(key): reasons[key]}, {**rest, key + key[:1]: reasons[key]},
                           {**rest, key + ("zz",): reasons[key]}, {**rest, None: reasons[key]}]
                values += [{**rest, key: name} for name in ("zzz", "", None, 0, True, [reasons[key]], (reasons[key],), mock.ANY,
                                                            reasons[key].encode(), {}, archive.page(reasons[key]))]
            for value in values:
                seen[self.check(archive, question, brute, (choice, price, value))] += 1
        self.assertGreater(min(seen.values()), 100)


class ArgumentTest(unittest.TestCase):
    def setUp(self):
        self.archive = put_all(Archive(FAMILY), [("a", ("ab",)), ("b", ())])

    def test_wrong_arguments(self):
        archive, question = (self.archive, NO_ARCHIVE), (QUESTION, NO_QUESTION)
        choice, look = (["b"], NO_CHOICE), (1, NO_LOOK)
        check_wrong(self, answers_by, [archive, question, choice])
        check_wrong(self, is_sharp, [archive, question, choice])
        check_wrong(self, price_of, [archive, question, choice])
        check_wrong(self, price_of, [archive, question, choice, look])
        check_wrong(self, cheapest_sharp, [archive, question])
        check_wrong(self, cheapest, [archive, question, look])
        check_wrong(self, lambda *two: check_cheapest(*two, [], 0, {}), [archive, question])
        check_wrong(self, lambda *two: check_cheapest(*two, None, None, None), [archive, question])
        self.assertEqual((self.archive.names, len(self.archive.changes)), (["a", "b"], 2))

    def test_great_looks(self):
        self.assertEqual(price_of(self.archive, read_question("'abb'"), [], 10 ** 40), 2 * 10 ** 40)
        self.assertEqual(price_of(self.archive, read_question("'abb'"), ["ab"], look=10 ** 40), 10 ** 40 + 1)


if __name__ == "__main__":
    unittest.main()
