"""The lines that tell a family or a change of an archive, in journals and on the console (17, 19)."""

from surelyhas.errors import BadText
from surelyhas.families import Family, are_pieces
from surelyhas.words import is_name, is_signs, read_page, show_page

FAMILY = "family"
PUT = "put"
DROP = "drop"
MERGE = "merge"
NO_PIECES = "-"


def show_family(family):
    """Return the line that tells a family."""
    pieces = family.pieces
    told = ",".join(pieces) if len(pieces) > 0 else NO_PIECES
    return f"{FAMILY} {family.signs} {told}"


def read_family(line):
    """Return the family that a line tells, None if it tells none."""
    words = line.split(" ")
    if len(words) != 3 or words[0] != FAMILY:
        return None
    _, signs, told = words
    pieces = [] if told == NO_PIECES else told.split(",")
    if not is_signs(signs) or not are_pieces(pieces, signs):
        return None
    return Family(signs, pieces)


def show_change(change):
    """Return the line that tells a change, a tuple of those that an archive tells."""
    if change[0] == PUT:
        _, name, page = change
        return f"{PUT} {name} {show_page(page)}"
    return " ".join(change)


def read_change(line):
    """Return the change that a line tells, a tuple like those that an archive tells, None if it tells none."""
    words = line.split(" ")
    if words == [MERGE]:
        return (MERGE,)
    if len(words) == 2 and words[0] == DROP and is_name(words[1]):
        return DROP, words[1]
    if len(words) == 3 and words[0] == PUT and is_name(words[1]):
        page = page_told(words[2])
        return None if page is None else (PUT, words[1], page)
    return None


def page_told(text):
    """Return the page that a text tells, None if it tells none."""
    try:
        return read_page(text)
    except BadText:
        return None


def make_change(archive, change):
    """Make a change of an archive."""
    if change[0] == PUT:
        _, name, page = change
        archive.put(name, page)
    elif change[0] == DROP:
        archive.drop(change[1])
    else:
        archive.merge()
