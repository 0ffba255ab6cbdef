"""Wrong arguments, alone and several at once: the error of the leftmost one comes first (2)."""

import itertools
from unittest import mock

from surelyhas.archives import Archive
from surelyhas.errors import BadArgument, BadLine, BadPieces, BadPrice, BadQuestion, BadSigns, LimitExceeded
from surelyhas.families import Family
from surelyhas.patterns import Pattern
from surelyhas.questions import read_question

QUESTION = read_question("'ab' & ~'b$'")
FAMILY = Family("ab", ["ab", "b"])
OTHERS = (None, 0, 1, True, "", "ab", ["ab"], ("ab",), {}, object(), mock.ANY)
# Each wrong value stands with its error, and with the field of this and what the field must be.
NO_ARCHIVE = [(value, BadArgument, "value", value) for value in (*OTHERS, FAMILY, QUESTION, Archive)]
NO_FAMILY = [(value, BadArgument, "value", value) for value in (*OTHERS, QUESTION, Archive(FAMILY), Family)]
NO_QUESTION = [(value, BadArgument, "value", value)
               for value in (*OTHERS, "'ab'", [QUESTION], FAMILY, Archive(FAMILY), Pattern("ab"))]
NO_PATTERN = [(value, BadArgument, "value", value) for value in (*OTHERS, QUESTION, FAMILY, Pattern)]
NO_CHOICE = [(value, BadPieces, "value", value)
             for value in (None, 0, True, "ab", "", ("ab",), (), {"ab": 1}, {}, {"ab"}, object(), mock.ANY, ["a"], ["ab", "ab"],
                           ["ab", "b", "ab"], ["ab", "ba"], [["ab"]], [("ab",)], [None], [0], [True], [""], [b"ab"],
                           [mock.ANY], ["b", mock.ANY])]
NO_LOOK = [(value, BadPrice, "value", value)
           for value in (None, True, False, -1, -10 ** 30, 1.0, "1", "", b"1", [], [1], (1,), {}, object(), mock.ANY)]
NO_SIGNS = [(value, BadSigns, "value", value)
            for value in (None, 0, True, "", "ba", "aa", "abcdefg", "A", "a b", "a1", b"ab", ["a", "b"], ("a",), {}, object(),
                          mock.ANY, "\u00e4")]
NO_QUESTIONS = [(value, BadQuestion, "value", value)
                for value in (None, 0, True, "", "'a'", (), (QUESTION,), {}, QUESTION, object(), mock.ANY, ["'ab'"], [None],
                              [QUESTION, "'ab'"], [[QUESTION]], [QUESTION, mock.ANY], [Pattern("ab")])]
NO_LINE = [(value, BadLine, "value", value)
           for value in (None, 0, True, "A", "a b", "a\n", "\u00e4", "a1", b"ab", ["a"], ("a",), [], {}, object(), mock.ANY)]
WORDS = ["a", "b", "ab", "ba", "aa", "bb", "aab", "abb"]
TOO_MANY = [(Family("ab", WORDS[:many]), LimitExceeded, "number", many) for many in (7, 8)]


def check_wrong(test, call, arguments):
    """Call with wrong values, of each argument all alone, and the first few with each other; arguments are pairs of a
    good value and its wrong ones, in the order of the call.
    """
    good = [right for right, _ in arguments]
    for place, (_, wrong) in enumerate(arguments):
        for one in wrong:
            check_call(test, call, [one[0] if at == place else right for at, right in enumerate(good)], one)
    few = [[None, *wrong[:2], *wrong[-1:]] for _, wrong in arguments]
    for combined in itertools.product(*few):
        leftmost = [one for one in combined if one is not None]
        if len(leftmost) > 1:
            check_call(test, call, [right if one is None else one[0] for one, right in zip(combined, good)], leftmost[0])


def check_call(test, call, values, one):
    """Call with some values that raise one error, which leaves them as they are."""
    _, error, field, told = one
    before = [repr(value) for value in values]
    with test.subTest(values=values):
        with test.assertRaises(error) as caught:
            call(*values)
        test.assertIs(type(caught.exception), error)
        test.assertIs(getattr(caught.exception, field), told)
        test.assertEqual([repr(value) for value in values], before)
