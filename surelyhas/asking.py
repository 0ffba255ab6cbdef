"""In which order to ask for the pieces of one page (12)."""

from surelyhas.arguments import check_question, check_small_family
from surelyhas.depths import NOTHING, Depths
from surelyhas.kinds import is_whole


def asking_tree(family, question):
    """Return a right tree of asking of the least depth."""
    return checked_depths(family, question).tree(NOTHING)


def least_depth(family, question):
    """Return the least depth of a right tree of asking."""
    return checked_depths(family, question).depth(NOTHING)


def check_tree(family, question, value):
    """Return whether any value is a right tree of asking."""
    return checked_depths(family, question).is_right(value, NOTHING)


def stubborn_answers(family, question):
    """Return stubborn answers for a depth less by one than the least one, None if that is 0."""
    depths = checked_depths(family, question)
    least = depths.depth(NOTHING)
    return None if least == 0 else depths.stubborn(NOTHING, least - 1)


def check_stubborn(family, question, number, value):
    """Return whether any value is right stubborn answers for any value as the depth."""
    depths = checked_depths(family, question)
    return is_whole(number) and number >= 0 and depths.is_stubborn(value, NOTHING, number)


def checked_depths(family, question):
    """Return the Depths of a family and a question, or raise an error for the first that is wrong."""
    check_small_family(family)
    check_question(question)
    return Depths(family, question)
