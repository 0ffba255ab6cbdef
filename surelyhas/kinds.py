"""Tests of kinds for numbers, pieces and reasons, which the interface does not list but needs in several places."""


def is_whole(value):
    """Return whether any value is an integer."""
    # Python counts True and False among its integers, this package does not.
    return isinstance(value, int) and not isinstance(value, bool)


def is_ascending(value, most):
    """Return whether any value is an ascending tuple of integers from 0 to most."""
    if not isinstance(value, tuple):
        return False
    least = 0
    for number in value:
        if not is_whole(number) or not least <= number <= most:
            return False
        least = number + 1
    return True


def is_piece(value, pieces):
    """Return whether any value is one of some pieces."""
    return isinstance(value, str) and value in pieces


def is_choice(value, pieces):
    """Return whether any value is a list of different ones of some pieces, in any order."""
    if not isinstance(value, list) or not all([is_piece(piece, pieces) for piece in value]):
        return False
    return len(set(value)) == len(value)


def is_row(value, choice):
    """Return whether any value is a list of just the pieces of a choice, a tuple, in its order."""
    return isinstance(value, list) and all([isinstance(piece, str) for piece in value]) and tuple(value) == choice


def are_just_keys(value, choices):
    """Return whether any value is a dict whose keys are exactly some different choices, tuples."""
    return isinstance(value, dict) and len(value) == len(choices) and all([is_choice_of(key, choices) for key in value])


def is_choice_of(value, choices):
    """Return whether any value is one of some choices, tuples."""
    return isinstance(value, tuple) and all([isinstance(piece, str) for piece in value]) and value in choices
