"""Worlds and answers for one family and some patterns, for any found (9)."""

from itertools import combinations

from surelyhas.graphs import AllowedLines, LineGraph, bits_of

SURELY = "surely"
NOT = "not"
OPEN = "open"
NEVER = "never"


class Reckoning:
    """Worlds for a family and some patterns; what all found have in common is made once."""

    def __init__(self, family, patterns):
        self._pieces = family.pieces
        self._many = len(patterns)
        self._graph = LineGraph(family, patterns)

    def worlds(self, found):
        """Return the ascending list of the worlds."""
        return self._allowed(found).worlds(self._many)

    def page(self, found, world):
        """Return a page for a world, None if it is none."""
        return self._allowed(found).page(world)

    def can_be_had(self, found):
        """Return whether found can be had."""
        return len(self.worlds(found)) > 0

    def had_sets(self):
        """Return the list of all found that can be had."""
        told = []
        for many in range(len(self._pieces) + 1):
            told += [list(found) for found in combinations(self._pieces, many) if self.can_be_had(found)]
        return told

    def _allowed(self, found):
        return AllowedLines(self._graph, bits_of([self._pieces.index(piece) for piece in found]))


class AnswerBook:
    """The answers to one question, each reckoned once."""

    def __init__(self, family, question):
        self._question = question
        self._reckoning = Reckoning(family, question.patterns)
        self._answers = {}

    def answer(self, found):
        """Return the answer for some pieces of the family."""
        key = tuple(sorted(found))
        if key not in self._answers:
            self._answers[key] = answer_in(self._reckoning.worlds(found), self._question)
        return self._answers[key]


def answer_in(told, question):
    """Return the answer to a question for which these are all worlds."""
    met = [question.holds(world) for world in told]
    if len(met) == 0:
        return NEVER
    if all(met):
        return SURELY
    return OPEN if any(met) else NOT
