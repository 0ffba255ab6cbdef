"""A reckoning of the tests' own: questions as trees, patterns by Python's re, worlds by going through short lines.

A tree is a text, which is a pattern, or ("&", tree, tree), ("|", tree, tree), ("~", tree).
"""

import functools
import itertools
import re

from surelyhas.patterns import Pattern
from surelyhas.questions import Question


def question_of(tree):
    """The question of a tree, joined by the operators of Question."""
    if isinstance(tree, str):
        return Question(Pattern(tree))
    if tree[0] == "~":
        return ~question_of(tree[1])
    if tree[0] == "&":
        return question_of(tree[1]) & question_of(tree[2])
    return question_of(tree[1]) | question_of(tree[2])


def patterns_of(tree):
    """The texts of the patterns of a tree, each once, in the order in which they first stand."""
    if isinstance(tree, str):
        return [tree]
    return list(dict.fromkeys(text for part in tree[1:] for text in patterns_of(part)))


def is_met(tree, had):
    """Whether a tree is met where just the patterns with some texts are."""
    if isinstance(tree, str):
        return tree in had
    if tree[0] == "~":
        return not is_met(tree[1], had)
    if tree[0] == "&":
        return is_met(tree[1], had) and is_met(tree[2], had)
    return is_met(tree[1], had) or is_met(tree[2], had)


def bracketed(tree):
    """A text of a tree with brackets around everything that is joined."""
    if isinstance(tree, str):
        return f"'{tree}'"
    if tree[0] == "~":
        return f"(~{bracketed(tree[1])})"
    return f"({bracketed(tree[1])}{tree[0]}{bracketed(tree[2])})"


def all_trees(leaves):
    """All trees that join some leaves in this order, with at most one ~ ahead of each part."""
    if len(leaves) == 1:
        plain = [leaves[0]]
    else:
        plain = [(sign, one, two) for at in range(1, len(leaves)) for one in all_trees(leaves[:at])
                 for two in all_trees(leaves[at:]) for sign in "&|"]
    return plain + [("~", tree) for tree in plain]


def drawn_tree(chooser, leaves):
    """A tree that joins some leaves in this order."""
    if len(leaves) == 1:
        tree = leaves[0]
    else:
        at = chooser.randrange(1, len(leaves))
        tree = (chooser.choice("&|"), drawn_tree(chooser, leaves[:at]), drawn_tree(chooser, leaves[at:]))
    while chooser.random() < 0.25:
        tree = ("~", tree)
    return tree


@functools.lru_cache(maxsize=None)
def expression_of(text):
    """The expression of Python for a pattern; it has none of several signs of * + ? behind one another."""
    assert not re.search(r"[*+?][*+?]", text)
    inner = text.removeprefix("^").removesuffix("$").replace(".", "[a-z]")
    return re.compile("^" * text.startswith("^") + f"(?:{inner})" + r"\Z" * text.endswith("$"))


@functools.lru_cache(maxsize=None)
def has(text, line):
    return expression_of(text).search(line) is not None


def had_by(page, texts):
    """Those of some patterns that a page has."""
    return [text for text in texts if any(has(text, line) for line in page)]


def pieces_in(page, pieces):
    return [piece for piece in pieces if any(piece in line for line in page)]


@functools.lru_cache(maxsize=None)
def lines_over(signs, most):
    return ["".join(line) for many in range(most + 1) for line in itertools.product(signs, repeat=many)]


def choices_of(pieces):
    """All lists of some pieces, by their numbers and then as their places ascend."""
    return [list(found) for many in range(len(pieces) + 1) for found in itertools.combinations(pieces, many)]


def all_tuples(many):
    """All ascending tuples of numbers of so many patterns."""
    return [told for length in range(many + 1) for told in itertools.combinations(range(many), length)]


class Lines:
    """All lines over some signs with at most so many letters, with their pieces and patterns."""

    def __init__(self, signs, pieces, texts, most):
        self.texts = texts
        kinds = {(tuple(pieces_in((line,), pieces)), tuple(had_by((line,), texts)))
                 for line in lines_over(signs, most)}
        self.kinds = [(set(inner), set(had)) for inner, had in kinds]

    def worlds(self, found):
        """The worlds for which there is a page of these lines, word by word as point 9 tells it."""
        told = []
        for world in all_tuples(len(self.texts)):
            inside = {self.texts[number] for number in world}
            fit = [(inner, had) for inner, had in self.kinds if inner <= set(found) and had <= inside]
            if (all(any(piece in inner for inner, _ in fit) for piece in found)
                    and all(any(text in had for _, had in fit) for text in inside)):
                told.append(world)
        return sorted(told)
