"""Questions: patterns joined by and, or, not (7)."""

from surelyhas.errors import BadArgument, BadPage, BadPieces, BadQuestion, BadText
from surelyhas.joins import AND, OR, Joins, read_joins
from surelyhas.kinds import is_ascending
from surelyhas.patterns import Pattern
from surelyhas.words import is_page

MOST_PATTERNS = 4


class Question:
    """A question; made from a pattern, it is that of the pattern alone."""

    def __init__(self, pattern):
        # Joins never come from outside: so this package makes a joined question, which must be of this class too.
        if isinstance(pattern, Joins):
            self._joins = pattern
        elif isinstance(pattern, Pattern):
            self._joins = Joins((pattern,), (0,))
        else:
            raise BadArgument(pattern)

    def __and__(self, other):
        return self._together(other, AND)

    def __or__(self, other):
        return self._together(other, OR)

    def __invert__(self):
        return Question(self._joins.opposite())

    def __eq__(self, other):
        if not isinstance(other, Question):
            return False
        return self._joins.row == other._joins.row and self._joins.members == other._joins.members

    @property
    def patterns(self):
        """The list of its patterns, each once, in the order in which they first stand."""
        return list(self._joins.members)

    def show(self):
        """Return its text."""
        return self._joins.shown()

    def holds(self, world):
        """Return whether it is met where just the patterns with these numbers are met."""
        if not is_ascending(world, len(self._joins.members) - 1):
            raise BadPieces(world)
        return self._joins.are_met(world)

    def meets(self, page):
        """Return whether a page meets it."""
        if not is_page(page):
            raise BadPage(page)
        patterns = self._joins.members
        had = [number for number, pattern in enumerate(patterns) if any([pattern.has(line) for line in page])]
        return self._joins.are_met(had)

    def _together(self, other, sign):
        if not isinstance(other, Question):
            raise BadArgument(other)
        joins = self._joins.joined(other._joins, sign)
        check_number(joins)
        return Question(joins)


def read_question(text):
    """Return the question that a text tells."""
    if not isinstance(text, str):
        raise BadText(None)
    joins = read_joins(text)
    check_number(joins)
    return Question(joins)


def check_number(joins):
    """Raise BadQuestion if these are too many patterns for a question."""
    if len(joins.members) > MOST_PATTERNS:
        raise BadQuestion(len(joins.members))
