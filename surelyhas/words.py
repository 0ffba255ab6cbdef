"""The texts of which all else is made (4): lines, names, pages, signs and words; pages as texts."""

from surelyhas.errors import BadPage, BadText

LETTERS = "abcdefghijklmnopqrstuvwxyz"
MOST_SIGNS = 6
MOST_IN_WORD = 3
MOST_IN_NAME = 8
NO_LINES = "-"
LINE_MARK = "="


def is_line(value):
    """Return whether any value is a line."""
    return isinstance(value, str) and all([sign in LETTERS for sign in value])


def is_name(value):
    """Return whether any value is a name."""
    return is_line(value) and 1 <= len(value) <= MOST_IN_NAME


def is_page(value):
    """Return whether any value is a page."""
    return isinstance(value, tuple) and all([is_line(line) for line in value])


def is_signs(value):
    """Return whether any value is signs."""
    return is_line(value) and 1 <= len(value) <= MOST_SIGNS and list(value) == sorted(set(value))


def is_word(value):
    """Return whether any value is a word."""
    return is_line(value) and 1 <= len(value) <= MOST_IN_WORD


def show_page(page):
    """Return the text of a page."""
    if not is_page(page):
        raise BadPage(page)
    if len(page) == 0:
        return NO_LINES
    return "/".join([LINE_MARK + line for line in page])


def read_page(text):
    """Return the page that a text tells."""
    if not isinstance(text, str):
        raise BadText(None)
    if text == NO_LINES:
        return ()
    parts = text.split("/")
    if not all([part.startswith(LINE_MARK) and is_line(part[1:]) for part in parts]):
        raise BadText(None)
    return tuple([part[1:] for part in parts])
