"""Papers that a tuple is no world, papers of answers, and their checkers (10)."""

from surelyhas.arguments import check_found, check_numbers, check_question
from surelyhas.families import is_over
from surelyhas.kinds import is_ascending
from surelyhas.orders import all_choices
from surelyhas.proofs import Proofs
from surelyhas.reckoning import Reckoning, answer_in
from surelyhas.words import is_page


def world_paper(family, found, question, world):
    """Return a paper that world is none, None if it is one."""
    check_found(family, found)
    check_question(question)
    check_numbers(question, world)
    return Proofs(family, found, question.patterns).paper(world)


def check_world(family, found, question, world, value):
    """Return whether any value is a paper that world is none."""
    check_found(family, found)
    check_question(question)
    check_numbers(question, world)
    return Proofs(family, found, question.patterns).is_paper(world, value)


def answer_paper(family, found, question):
    """Return a paper of the answer."""
    check_found(family, found)
    check_question(question)
    patterns = question.patterns
    reckoning = Reckoning(family, patterns)
    proofs = Proofs(family, found, patterns)
    shown = {}
    for world in all_choices(list(range(len(patterns)))):
        page = reckoning.page(found, world)
        shown[world] = proofs.paper(world) if page is None else page
    return shown


def check_answer(family, found, question, told, value):
    """Return whether any value is a paper of an answer, and any value as told the answer that it shows."""
    check_found(family, found)
    check_question(question)
    patterns = question.patterns
    if not isinstance(value, dict) or len(value) != 1 << len(patterns):
        return False
    # Looked up by these keys alone (True,) would be taken for (1,).
    if not all([is_ascending(key, len(patterns) - 1) for key in value]):
        return False
    shown = [world for world in value if is_page_for(family, found, patterns, world, value[world])]
    proofs = Proofs(family, found, patterns)
    if not all([world in shown or proofs.is_paper(world, value[world]) for world in value]):
        return False
    return isinstance(told, str) and told == answer_in(shown, question)


def is_page_for(family, found, patterns, world, value):
    """Return whether any value is a page over the signs for which a tuple is the world."""
    if not is_page(value) or not all([is_over(line, family.signs) for line in value]):
        return False
    had = [number for number, pattern in enumerate(patterns) if any([pattern.has(line) for line in value])]
    return sorted(family.of(value)) == sorted(found) and tuple(had) == world
