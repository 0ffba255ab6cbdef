"""Reads the text of a pattern (5), and finds in which order its positions can stand in words.

A part of a pattern is told by a tuple (begins, ends, empty): the positions with which its words begin,
those with which they end, each ascending, and whether the empty word is one of its words.
"""

from surelyhas.errors import BadPattern
from surelyhas.words import LETTERS

MOST_CHARACTERS = 40
MOST_POSITIONS = 12
EMPTY_WORD = ((), (), True)
# Right at no place, so a text that ends too early is wrong at its end as at any other character.
TEXT_END = "\n"


def read_pattern(text):
    """Return (from_start, to_end, letters, follows, ends) of the pattern that a text tells.

    letters and follows have an item for each position and, ahead of them, one for 0, the beginning: it has no
    letters, and the positions with which words begin follow it. ends are the positions with which words end, and
    0 if the empty word is described.
    """
    return PatternReader(text).read()


def united(one, other):
    """Return all positions of two tuples, ascending."""
    return tuple(sorted(set(one + other)))


class PatternReader:
    """Goes through a text once from left to right, so the first wrong character is found first."""

    def __init__(self, text):
        self._length = len(text)
        self._signs = text[:MOST_CHARACTERS] + TEXT_END
        self._at = 0
        self._letters = [""]
        self._follows = [()]

    def read(self):
        """Read the whole text."""
        from_start = self._takes("^")
        begins, ends, empty = self._expression()
        to_end = self._takes("$")
        if self._at < self._length:
            raise BadPattern(self._at)
        if empty:
            ends = (0, *ends)
        self._follows[0] = begins
        return from_start, to_end, tuple(self._letters), tuple(self._follows), ends

    def _ahead(self):
        return self._signs[self._at]

    def _taken(self):
        """Go over the character ahead and return it."""
        self._at += 1
        return self._signs[self._at - 1]

    def _takes(self, sign):
        """Go over the character ahead if it is this one; return whether it was."""
        if self._ahead() != sign:
            return False
        self._at += 1
        return True

    def _expression(self):
        begins, ends, empty = self._branch()
        while self._takes("|"):
            more_begins, more_ends, more_empty = self._branch()
            begins = united(begins, more_begins)
            ends = united(ends, more_ends)
            empty = empty or more_empty
        return begins, ends, empty

    def _branch(self):
        row = EMPTY_WORD
        while self._ahead() in LETTERS or self._ahead() in ".[(":
            row = self._joined(row, self._item())
        return row

    def _joined(self, row, item):
        """Return what is told of a row with one item more behind it."""
        begins, ends, empty = row
        item_begins, item_ends, item_empty = item
        self._link(ends, item_begins)
        if empty:
            begins = united(begins, item_begins)
        if item_empty:
            item_ends = united(ends, item_ends)
        return begins, item_ends, empty and item_empty

    def _item(self):
        begins, ends, empty = self._atom()
        while self._ahead() in "*+?":
            sign = self._taken()
            if sign != "?":
                self._link(ends, begins)
            if sign != "+":
                empty = True
        return begins, ends, empty

    def _atom(self):
        if self._takes("("):
            inner = self._expression()
            if not self._takes(")"):
                raise BadPattern(self._at)
            return inner
        if len(self._letters) > MOST_POSITIONS:
            raise BadPattern(self._at)
        return self._position()

    def _position(self):
        sign = self._taken()
        if sign == ".":
            described = LETTERS
        elif sign == "[":
            described = self._class_letters()
        else:
            described = sign
        position = len(self._letters)
        self._letters.append(described)
        self._follows.append(())
        return (position,), (position,), False

    def _class_letters(self):
        """Go over a class behind its first bracket and return its letters, ascending."""
        found = []
        while self._ahead() in LETTERS and self._ahead() not in found:
            found.append(self._taken())
        if len(found) == 0 or not self._takes("]"):
            raise BadPattern(self._at)
        return "".join(sorted(found))

    def _link(self, ends, begins):
        """Note that each of some positions can follow each of some others directly."""
        for position in ends:
            self._follows[position] = united(self._follows[position], begins)
