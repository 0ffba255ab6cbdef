"""The errors that hang on one argument of many calls (2)."""

from surelyhas.errors import BadArgument, BadPieces, BadQuestion, LimitExceeded
from surelyhas.families import Family
from surelyhas.kinds import is_ascending, is_choice
from surelyhas.questions import Question

MOST_GONE_THROUGH = 6


def check_family(family):
    """Raise BadArgument if a value is no family."""
    if not isinstance(family, Family):
        raise BadArgument(family)


def check_small_family(family):
    """Raise an error if a value is no family, or one of more pieces than can be gone through."""
    check_family(family)
    if len(family.pieces) > MOST_GONE_THROUGH:
        raise LimitExceeded(len(family.pieces))


def check_found(family, found):
    """Raise an error if values are no family, or no list of different ones of its pieces."""
    check_family(family)
    if not is_choice(found, family.pieces):
        raise BadPieces(found)


def check_question(question):
    """Raise BadArgument if a value is no question."""
    if not isinstance(question, Question):
        raise BadArgument(question)


def check_questions(questions):
    """Raise BadQuestion if a value is no list of questions."""
    if not isinstance(questions, list) or not all([isinstance(question, Question) for question in questions]):
        raise BadQuestion(questions)


def check_numbers(question, world):
    """Raise BadPieces if a value is no ascending tuple of numbers of patterns of a question."""
    if not is_ascending(world, len(question.patterns) - 1):
        raise BadPieces(world)
