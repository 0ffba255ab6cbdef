"""Worlds and answers for one family and some patterns, for any found (9)."""

from surelyhas.bits import piece_bits
from surelyhas.graphs import AllowedLines, LineGraph
from surelyhas.orders import all_choices

SURELY = "surely"
NOT = "not"
OPEN = "open"
NEVER = "never"


class Reckoning:
    """Worlds for a family and some patterns; what all found have in common is made once."""

    def __init__(self, family, patterns):
        self._pieces = family.pieces
        self._many = len(patterns)
        self._graph = LineGraph(family, patterns)

    def worlds(self, found):
        """Return the ascending list of the worlds."""
        return self._allowed(found).worlds(self._many)

    def page(self, found, world):
        """Return a page for a world, None if it is none."""
        return self._allowed(found).page(world)

    def can_be_had(self, found):
        """Return whether found can be had."""
        return len(self.worlds(found)) > 0

    def had_sets(self):
        """Return the list of all found that can be had."""
        return [list(found) for found in all_choices(self._pieces) if self.can_be_had(found)]

    def _allowed(self, found):
        return AllowedLines(self._graph, piece_bits(found, self._pieces))


class AnswerBook:
    """The answers to one question, each reckoned once."""

    def __init__(self, family, question):
        self._question = question
        self._reckoning = Reckoning(family, question.patterns)
        self._answers = {}

    def answer(self, found):
        """Return the answer for some pieces of the family."""
        key = tuple(sorted(found))
        if key not in self._answers:
            self._answers[key] = answer_in(self._reckoning.worlds(found), self._question)
        return self._answers[key]


def answer_in(told, question):
    """Return the answer to a question for which these are all worlds."""
    met = [question.holds(world) for world in told]
    if len(met) == 0:
        return NEVER
    if all(met):
        return SURELY
    return OPEN if any(met) else NOT


def known_answers(family, question):
    """Return a dict from the bits of all found that can be had to the answers to a question."""
    book = AnswerBook(family, question)
    return {piece_bits(found, family.pieces): book.answer(found) for found in Reckoning(family, []).had_sets()}


def cut_answers(answers, choice):
    """Return a dict from the bits of what can be had of a choice to the answers of the family of the chosen pieces.

    answers are those of the whole family, from bits; choice is told by bits, too. A page with just some of the chosen
    pieces has just some pieces of the whole family that agree with these.
    """
    told = {}
    for found, answer in answers.items():
        part = found & choice
        told[part] = answer if told.get(part, answer) == answer else OPEN
    return told


def is_less_sharp(answer, other):
    """Return whether an answer is less sharp than another one."""
    return answer == OPEN and other != OPEN
