"""Trees of asking and stubborn answers for one family and one question (12).

What was told on the way is a tuple (asked, had): the bits of the pieces that were asked for, and of those of them that
the page has.
"""

from surelyhas.bits import bits_of, numbers_of, piece_bits, pieces_of
from surelyhas.kinds import is_choice, is_piece
from surelyhas.reckoning import NEVER, NOT, OPEN, SURELY, known_answers

NOTHING = (0, 0)
TWO = "two"


class Depths:
    """Makes and checks trees and stubborn answers, by the answers to all found that can be had."""

    def __init__(self, family, question):
        self._pieces = family.pieces
        self._answers = known_answers(family, question)
        self._depths = {}

    def depth(self, told):
        """Return the least depth of a right tree behind what was told."""
        if told not in self._depths:
            self._depths[told] = self._depth_and_piece(told)[0] if self._is_undecided(told) else 0
        return self._depths[told]

    def tree(self, told):
        """Return a right tree of the least depth behind what was told."""
        if not self._is_undecided(told):
            # Where no found agrees with what was told each answer is right.
            return min(self._answers_left(told), default=NEVER)
        _, number = self._depth_and_piece(told)
        return self._pieces[number], self.tree(behind(told, number, False)), self.tree(behind(told, number, True))

    def is_right(self, value, told):
        """Return whether any value is a right tree behind what was told."""
        if isinstance(value, str):
            return value in (SURELY, NOT, OPEN, NEVER) and all([answer == value for answer in self._answers_left(told)])
        if not isinstance(value, tuple) or len(value) != 3:
            return False
        piece, without, within = value
        if not is_piece(piece, self._pieces_left(told)):
            return False
        number = self._pieces.index(piece)
        return self.is_right(without, behind(told, number, False)) and self.is_right(within, behind(told, number, True))

    def stubborn(self, told, depth):
        """Return stubborn answers for a depth that is less than the least one behind what was told."""
        if depth == 0:
            return self._two_found(told)
        answers = {}
        for number in self._numbers_left(told):
            truth = self.depth(behind(told, number, True)) >= depth
            answers[self._pieces[number]] = (truth, self.stubborn(behind(told, number, truth), depth - 1))
        return answers

    def is_stubborn(self, value, told, depth):
        """Return whether any value is right stubborn answers for a depth behind what was told."""
        if depth == 0:
            return self._are_two_found(value, told)
        left = self._pieces_left(told)
        if not isinstance(value, dict) or len(value) == 0 or len(value) != len(left):
            return False
        if not all([is_piece(key, left) for key in value]):
            return False
        return all([self._is_answered(value[piece], told, piece, depth) for piece in left])

    def _is_answered(self, value, told, piece, depth):
        """Return whether any value is (truth, stubborn answers) for a piece that is asked for next."""
        if not isinstance(value, tuple) or len(value) != 2:
            return False
        truth, answers = value
        if not isinstance(truth, bool):
            return False
        return self.is_stubborn(answers, behind(told, self._pieces.index(piece), truth), depth - 1)

    def _two_found(self, told):
        """Return two found as stubborn answers for depth 0."""
        agreeing = self._agreeing(told)
        one = agreeing[0]
        others = [found for found in agreeing if self._answers[found] != self._answers[one]]
        return TWO, pieces_of(one, self._pieces), pieces_of(others[0], self._pieces)

    def _are_two_found(self, value, told):
        """Return whether any value is right stubborn answers for depth 0."""
        if not isinstance(value, tuple) or len(value) != 3:
            return False
        kind, *lists = value
        if not isinstance(kind, str) or kind != TWO or not all([is_choice(found, self._pieces) for found in lists]):
            return False
        one, other = [piece_bits(found, self._pieces) for found in lists]
        agreeing = self._agreeing(told)
        return one in agreeing and other in agreeing and self._answers[one] != self._answers[other]

    def _depth_and_piece(self, told):
        """Return the least depth of a tree that asks for a piece first, and the number of the first such piece."""
        return min([(1 + self._depth_by(told, number), number) for number in self._numbers_left(told)])

    def _depth_by(self, told, number):
        return max(self.depth(behind(told, number, False)), self.depth(behind(told, number, True)))

    def _is_undecided(self, told):
        return len(self._answers_left(told)) > 1

    def _answers_left(self, told):
        """Return the list of the different answers to all found that agree with what was told."""
        return sorted(set([self._answers[found] for found in self._agreeing(told)]))

    def _agreeing(self, told):
        """Return the bits of all found that can be had and agree with what was told."""
        asked, had = told
        return [found for found in self._answers if found & asked == had]

    def _numbers_left(self, told):
        asked, _ = told
        return [number for number in range(len(self._pieces)) if number not in numbers_of(asked)]

    def _pieces_left(self, told):
        return [self._pieces[number] for number in self._numbers_left(told)]


def behind(told, number, truth):
    """Return what was told with a truth for one more piece."""
    asked, had = told
    more = bits_of([number])
    return asked | more, (had | more) if truth else had
