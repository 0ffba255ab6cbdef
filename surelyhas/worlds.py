"""Worlds: which patterns pages with just some pieces can meet (9)."""

from surelyhas.arguments import check_family, check_found, check_numbers, check_question
from surelyhas.reckoning import Reckoning


def worlds(family, found, question):
    """Return the ascending list of all worlds."""
    check_found(family, found)
    check_question(question)
    return Reckoning(family, question.patterns).worlds(found)


def world_page(family, found, question, world):
    """Return a page with just the pieces of found and just the patterns with the numbers of world, None without one."""
    check_found(family, found)
    check_question(question)
    check_numbers(question, world)
    return Reckoning(family, question.patterns).page(found, world)


def can_be_had(family, found):
    """Return whether a page over the signs has just these pieces."""
    check_found(family, found)
    return Reckoning(family, []).can_be_had(found)


def had_sets(family):
    """Return the list of all found that can be had, by their numbers of pieces and then by the places of these."""
    check_family(family)
    return Reckoning(family, []).had_sets()
