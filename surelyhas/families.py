"""Families of pieces: which ones a page has, and which lines they allow (8)."""

from surelyhas.errors import BadPage, BadPieces, BadSigns
from surelyhas.kinds import is_choice
from surelyhas.words import is_line, is_page, is_signs, is_word

MOST_PIECES = 8


class Family:
    """Signs, and pieces over them in an order that stays."""

    def __init__(self, signs, pieces):
        if not is_signs(signs):
            raise BadSigns(signs)
        if not are_pieces(pieces, signs):
            raise BadPieces(pieces)
        self._signs = signs
        self._pieces = tuple(pieces)

    def __eq__(self, other):
        return isinstance(other, Family) and self._signs == other._signs and self._pieces == other._pieces

    @property
    def signs(self):
        """The signs, a text."""
        return self._signs

    @property
    def pieces(self):
        """The list of the pieces, in their order."""
        return list(self._pieces)

    def of(self, page):
        """Return the list of the pieces of a page over the signs, in the order of the family."""
        if not is_page(page) or not all([is_over(line, self._signs) for line in page]):
            raise BadPage(page)
        return [piece for piece in self._pieces if any([piece in line for line in page])]

    def cut(self, choice):
        """Return the family of the chosen pieces, in their order in this one."""
        self._check_choice(choice)
        return Family(self._signs, [piece for piece in self._pieces if piece in choice])

    def is_allowed(self, found, line):
        """Return whether any value as line is a line that is allowed by found."""
        self._check_choice(found)
        if not is_line(line) or not is_over(line, self._signs):
            return False
        return all([piece in found for piece in self._pieces if piece in line])

    def _check_choice(self, value):
        if not is_choice(value, self._pieces):
            raise BadPieces(value)


def are_pieces(value, signs):
    """Return whether any value is pieces of a family with these signs."""
    if not isinstance(value, list) or len(value) > MOST_PIECES:
        return False
    if not all([is_word(piece) and is_over(piece, signs) for piece in value]):
        return False
    return len(set(value)) == len(value)


def is_over(line, signs):
    """Return whether a line has no letters but some signs."""
    return all([sign in signs for sign in line])
