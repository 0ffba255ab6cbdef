"""Answers from the pieces of a page, with pages that show them (9)."""

from surelyhas.arguments import check_found, check_question
from surelyhas.reckoning import AnswerBook, Reckoning


def answer_of(family, found, question):
    """Return the answer: "surely", "not", "open" or "never"."""
    check_found(family, found)
    check_question(question)
    return AnswerBook(family, question).answer(found)


def evidence(family, found, question):
    """Return two pages with just these pieces, one that meets the question and one that does not, None for none."""
    check_found(family, found)
    check_question(question)
    reckoning = Reckoning(family, question.patterns)
    told = reckoning.worlds(found)
    meeting = [world for world in told if question.holds(world)]
    others = [world for world in told if not question.holds(world)]
    return page_for_first(reckoning, found, meeting), page_for_first(reckoning, found, others)


def page_for_first(reckoning, found, told):
    """Return a page for the first of some worlds, None if there are none."""
    if len(told) == 0:
        return None
    return reckoning.page(found, told[0])
