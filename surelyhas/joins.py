"""How patterns are joined to a question (7): in a row of numbers of patterns and signs, each sign behind what it joins.

'a' & ~('b' | 'a') has the members a and b and the row (0, 1, 0, "|", "~", "&"). A row is gone through from left to
right without recursion, however deep the question is.
"""

from surelyhas.errors import BadPattern, BadText
from surelyhas.patterns import Pattern

AND = "&"
OR = "|"
NOT = "~"
QUOTE = "'"
# How much each sign binds.
BINDS = {"|": 1, "&": 2, "~": 3}
PATTERN_BINDS = 4


class Joins:
    """Patterns and how they are joined; members are the different patterns, in the order in which they first stand."""

    def __init__(self, members, row):
        self.members = members
        self.row = row

    def opposite(self):
        """Return these joined by not."""
        return Joins(self.members, (*self.row, NOT))

    def joined(self, other, sign):
        """Return these and others joined by a sign."""
        members = (*self.members, *[pattern for pattern in other.members if pattern not in self.members])
        numbers = [members.index(pattern) for pattern in other.members]
        row = [part if part in BINDS else numbers[part] for part in other.row]
        return Joins(members, (*self.row, *row, sign))

    def are_met(self, world):
        """Return whether they are met where just the patterns with some numbers are."""
        truths = []
        for part in self.row:
            if part not in BINDS:
                truths.append(part in world)
            elif part == NOT:
                truths.append(not truths.pop())
            else:
                right = truths.pop()
                left = truths.pop()
                truths.append((left and right) if part == AND else (left or right))
        return truths[0]

    def shown(self):
        """Return the text of these."""
        told = []
        for part in self.row:
            if part not in BINDS:
                told.append((QUOTE + self.members[part].text + QUOTE, PATTERN_BINDS))
            elif part == NOT:
                told.append((NOT + bracketed(told.pop(), BINDS[NOT]), BINDS[NOT]))
            else:
                # In a row the left two are taken together first, so only on the right the same sign wants brackets.
                right = bracketed(told.pop(), BINDS[part] + 1)
                left = bracketed(told.pop(), BINDS[part])
                told.append((f"{left} {part} {right}", BINDS[part]))
        text, _ = told[0]
        return text


def bracketed(told, least):
    """Return a text, in brackets if it binds less than is wanted; told is the text and how much it binds."""
    text, binds = told
    return "(" + text + ")" if binds < least else text


def read_joins(text):
    """Return the Joins that a text tells, however many patterns there are."""
    return JoinsReader(text).read()


class JoinsReader:
    """Goes through a text once from left to right, so the first wrong character is found first."""

    def __init__(self, text):
        self._text = text
        self._at = 0
        self._members = []
        self._numbers = {}
        self._row = []
        # Brackets, and signs whose right side is not complete, the innermost last.
        self._waiting = []

    def read(self):
        """Read the whole text."""
        self._read_to_pattern()
        while self._goes_on():
            sign = self._taken()
            if sign == ")":
                self._close()
            elif sign == AND or sign == OR:
                self._join(BINDS[sign])
                self._waiting.append(sign)
                self._read_to_pattern()
            else:
                raise BadText(self._at - 1)
        self._join(BINDS[OR])
        if len(self._waiting) > 0:
            raise BadText(self._at)
        return Joins(tuple(self._members), tuple(self._row))

    def _goes_on(self):
        """Go over spaces; return whether there is a character behind them."""
        while self._at < len(self._text) and self._text[self._at] == " ":
            self._at += 1
        return self._at < len(self._text)

    def _taken(self):
        """Go over the character ahead and return it."""
        self._at += 1
        return self._text[self._at - 1]

    def _read_to_pattern(self):
        """Go over a pattern and all that may stand ahead of it."""
        while self._goes_on():
            sign = self._taken()
            if sign == QUOTE:
                self._read_pattern()
                return
            if sign != NOT and sign != "(":
                raise BadText(self._at - 1)
            self._waiting.append(sign)
        raise BadText(self._at)

    def _read_pattern(self):
        """Go over a pattern behind its first quote, and over its second one."""
        end = self._text.find(QUOTE, self._at)
        if end < 0:
            raise BadText(len(self._text))
        text = self._text[self._at:end]
        if text not in self._numbers:
            self._numbers[text] = len(self._members)
            self._members.append(self._made_pattern(text))
        self._row.append(self._numbers[text])
        self._at = end + 1

    def _made_pattern(self, text):
        try:
            return Pattern(text)
        except BadPattern:
            raise BadText(self._at) from None

    def _join(self, least):
        """Put the waiting signs into the row that bind at least so much, up to the innermost open bracket."""
        while len(self._waiting) > 0 and BINDS.get(self._waiting[-1], 0) >= least:
            self._row.append(self._waiting.pop())

    def _close(self):
        """Close the innermost open bracket, for the closing one that was gone over last."""
        self._join(BINDS[OR])
        if len(self._waiting) == 0:
            raise BadText(self._at - 1)
        self._waiting.pop()
