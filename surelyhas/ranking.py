"""All choices of the pieces of an archive, for one question (11)."""

from surelyhas.bits import piece_bits
from surelyhas.orders import all_choices
from surelyhas.reckoning import OPEN, cut_answers, is_less_sharp, known_answers


class Ranking:
    """All choices with their prices and with the pages for which they are less sharp than all pieces."""

    def __init__(self, archive, question):
        self._pieces = archive.family.pieces
        self._many_listed = {piece: len(archive.listed(piece)) for piece in self._pieces}
        # By names, in their order, the bits of the pieces of the pages.
        self._had = {name: piece_bits(archive.found(name), self._pieces) for name in archive.names}
        self._answers = known_answers(archive.family, question)

    def in_order(self, look):
        """Return the list of all choices, each with its price for a look, by price, number of pieces and order."""
        choices = all_choices(self._pieces)
        priced = sorted([(self._price(choice, look), at) for at, choice in enumerate(choices)])
        return [(choices[at], price) for price, at in priced]

    def first_sharp(self):
        """Return (choice, price, ahead) for the cheapest sharp choice, with a dict from each choice ahead of it to the
        ascending list of the pages for which that is less sharp.
        """
        rows = self.in_order(0)
        less = [self._less_sharp(choice) for choice, _ in rows]
        # All pieces together are sharp, so there is one.
        first = less.index([])
        choice, price = rows[first]
        return choice, price, {rows[at][0]: less[at] for at in range(first)}

    def _price(self, choice, look):
        listed = sum([self._many_listed[piece] for piece in choice])
        return listed + look * list(self._answers_by(choice).values()).count(OPEN)

    def _less_sharp(self, choice):
        told = self._answers_by(choice)
        return [name for name in told if is_less_sharp(told[name], self._answers[self._had[name]])]

    def _answers_by(self, choice):
        """Return a dict from all names, in their order, to the answers by a choice."""
        bits = piece_bits(choice, self._pieces)
        told = cut_answers(self._answers, bits)
        return {name: told[had & bits] for name, had in self._had.items()}
