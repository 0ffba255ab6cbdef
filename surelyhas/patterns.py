"""Patterns of lines (5), and their states behind the beginnings of a line (6)."""

from surelyhas.errors import BadLine, BadPattern, BadPieces
from surelyhas.expressions import read_pattern
from surelyhas.kinds import is_ascending, is_whole
from surelyhas.words import is_line


class Pattern:
    """A pattern."""

    def __init__(self, text):
        if not isinstance(text, str):
            raise BadPattern(None)
        # In the last three of these 0, the beginning, is a place like the positions: what follows it is what is first.
        self._from_start, self._to_end, self._letters, self._follows, self._ends = read_pattern(text)
        self._text = text

    def __eq__(self, other):
        return isinstance(other, Pattern) and self._text == other._text

    @property
    def text(self):
        """The text as it was given."""
        return self._text

    @property
    def many(self):
        """The number of positions."""
        return len(self._letters) - 1

    @property
    def from_start(self):
        """Whether there is a ^."""
        return self._from_start

    @property
    def to_end(self):
        """Whether there is a $."""
        return self._to_end

    @property
    def first(self):
        """The ascending list of positions with which a word can begin."""
        return list(self._follows[0])

    @property
    def last(self):
        """The ascending list of positions with which a word can end."""
        return [place for place in self._ends if place > 0]

    @property
    def empty(self):
        """Whether the empty word is described."""
        return 0 in self._ends

    def letters(self, position):
        """Return the letters that a position describes, as an ascending text."""
        self._check_position(position)
        return self._letters[position]

    def follows(self, position):
        """Return the ascending list of positions that can follow one directly."""
        self._check_position(position)
        return list(self._follows[position])

    def step(self, state, sign):
        """Return the state behind one more letter."""
        self._check_state(state)
        if not is_line(sign) or len(sign) != 1:
            raise BadLine(sign)
        return self._behind(state, sign)

    def is_end(self, state):
        """Return whether a state is an end."""
        self._check_state(state)
        return self._has_end(state)

    def has(self, line):
        """Return whether a line has the pattern."""
        if not is_line(line):
            raise BadLine(line)
        state = (0,)
        for sign in line:
            if self._has_end(state) and not self._to_end:
                return True
            state = self._behind(state, sign)
        return self._has_end(state)

    def _check_position(self, value):
        if not is_whole(value) or not 1 <= value < len(self._letters):
            raise BadPattern(None)

    def _check_state(self, value):
        if not is_ascending(value, len(self._letters) - 1):
            raise BadPieces(value)

    def _behind(self, state, sign):
        follow = [place for before in state for place in self._follows[before]]
        reached = sorted({place for place in follow if sign in self._letters[place]})
        if self._from_start:
            return tuple(reached)
        return (0, *reached)

    def _has_end(self, state):
        return any([place in self._ends for place in state])
