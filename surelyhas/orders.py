"""The order in which choices are gone through (11, 13)."""

from itertools import combinations


def all_choices(pieces):
    """Return the list of all choices of a list of pieces, as tuples, by their numbers and then as the places ascend."""
    told = []
    for many in range(len(pieces) + 1):
        told += [choice for choice in combinations(pieces, many)]
    return told
