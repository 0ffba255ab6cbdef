"""Small families and questions that many tests go through, the same at each run."""

import random

from surelyhas.archives import Archive
from surelyhas.families import Family
from tests.reckoned import Lines, drawn_tree, patterns_of

# Signs, pieces, and how long the lines are that are gone through.
FAMILIES = (("a", [], 6), ("a", ["a"], 6), ("a", ["aa"], 6), ("a", ["aaa", "a"], 7), ("ab", [], 6), ("ab", ["a"], 6),
            ("ab", ["ab", "ba"], 6), ("ab", ["ab", "aab"], 7), ("ab", ["a", "b", "ab"], 6), ("ab", ["bb", "aba"], 6),
            ("ab", ["aba", "bab", "aa"], 6), ("ab", ["a", "ab", "abb", "bab"], 7), ("bz", ["z", "bz", "zzb"], 6),
            ("abc", ["abc"], 5), ("abc", ["a", "bc"], 5), ("abc", ["ab", "c", "cab"], 5), ("abc", ["aa", "bb", "cc"], 5))
TEXTS = ("a", "b", "ab", "ba", "aab", "a|bb", "a*", "", "^a", "^", "b$", "$", "^$", "^a*$", "^(ab)*$", "^.a", "a.$",
         "[ab]b[ba]", "^(a|b.)+$", "z", "az", "q*", "^[az]b?$", "(a|)b", "bz", "c", "^c|b$", "a.*c", "bb?a")

NAMES = ("a", "b", "c", "one", "two", "abcdefgh", "zz", "zza", "m")


def drawn_questions(seed, many, most=4):
    """Trees of questions with at most so many leaves."""
    chooser = random.Random(seed)
    trees = []
    while len(trees) < many:
        tree = drawn_tree(chooser, [chooser.choice(TEXTS) for _ in range(chooser.randrange(1, most + 1))])
        if len(patterns_of(tree)) <= 4:
            trees.append(tree)
    return trees


def drawn_cases(seed, many, most=4):
    """Families, questions as trees, and all short lines."""
    chooser = random.Random(seed)
    told = []
    for tree in drawn_questions(seed, many, most):
        signs, pieces, length = chooser.choice(FAMILIES)
        told.append((Family(signs, pieces), tree, Lines(signs, pieces, patterns_of(tree), length)))
    return told


def drawn_question(chooser, more=()):
    """A tree of a question with at most three leaves, among them some more texts of patterns."""
    while True:
        tree = drawn_tree(chooser, [chooser.choice((*TEXTS, *more)) for _ in range(chooser.randrange(1, 4))])
        if len(patterns_of(tree)) <= 4:
            return tree


def drawn_page(chooser, signs):
    return tuple("".join(chooser.choice(signs) for _ in range(chooser.randrange(5))) for _ in range(chooser.randrange(4)))


def put_all(archive, pages):
    for name, page in pages:
        archive.put(name, page)
    return archive


def drawn_archive(chooser, family, many):
    """An archive behind so many changes."""
    archive = Archive(family)
    for _ in range(many):
        kind = chooser.choice(("put", "put", "put", "put", "drop", "merge"))
        if kind == "put":
            archive.put(chooser.choice(NAMES), drawn_page(chooser, family.signs))
        elif kind == "merge":
            archive.merge()
        elif len(archive):
            archive.drop(chooser.choice(archive.names))
    return archive
