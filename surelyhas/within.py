"""Whether each page that meets one question meets another one (14)."""

from surelyhas.answers import evidence
from surelyhas.arguments import check_question
from surelyhas.errors import BadSigns
from surelyhas.families import Family
from surelyhas.words import is_signs
from surelyhas.worlds import worlds


def lies_within(signs, question, other):
    """Return whether each page over the signs that meets question meets other."""
    return (True, False) not in truths_over(signs, question, other)


def page_outside(signs, question, other):
    """Return a page over the signs that meets question and not other, None if there is none."""
    check_both(signs, question, other)
    page, _ = evidence(Family(signs, []), [], question & ~other)
    return page


def is_alike(signs, question, other):
    """Return whether each question lies within the other."""
    return all([met == other_met for met, other_met in truths_over(signs, question, other)])


def truths_over(signs, question, other):
    """Return the list of all pairs (whether a page meets question, whether it meets other) for pages over the signs."""
    check_both(signs, question, other)
    told = worlds(Family(signs, []), [], question & other)
    pairs = [((True, True), question & other), ((True, False), question & ~other),
             ((False, True), ~question & other), ((False, False), ~question & ~other)]
    return [pair for pair, joined in pairs if any([joined.holds(world) for world in told])]


def check_both(signs, question, other):
    """Raise an error if values are no signs, or no questions."""
    if not is_signs(signs):
        raise BadSigns(signs)
    check_question(question)
    check_question(other)
