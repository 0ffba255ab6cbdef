"""Tests of kinds for numbers, which the interface does not list but needs in several places."""


def is_whole(value):
    """Return whether any value is an integer."""
    # Python counts True and False among its integers, this package does not.
    return isinstance(value, int) and not isinstance(value, bool)


def is_ascending(value, most):
    """Return whether any value is an ascending tuple of integers from 0 to most."""
    if not isinstance(value, tuple):
        return False
    least = 0
    for number in value:
        if not is_whole(number) or not least <= number <= most:
            return False
        least = number + 1
    return True
