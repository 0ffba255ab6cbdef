"""Journals of archives, and archives recovered from them (17)."""

from surelyhas.archives import Archive, check_archive
from surelyhas.commands import make_change, read_change, read_family, show_change, show_family
from surelyhas.errors import BadPage, BadText, UnknownName

MODULUS = 1000003
INDEX_FACTOR = 31
CHECK_MARK = " #"


def check_sum(index, line):
    """Return the check number of any text as the line with this index, without its own check number."""
    weighed = sum([ord(sign) * (place + 1) for place, sign in enumerate(line)])
    return (weighed + INDEX_FACTOR * index) % MODULUS


def journal(archive):
    """Return the journal of an archive."""
    check_archive(archive)
    lines = [show_family(archive.family), *[show_change(change) for change in archive.changes]]
    return "".join([with_check(index, line) + "\n" for index, line in enumerate(lines)])


def recover(text):
    """Return (archive, lost): the archive that a text still tells, None if not even a family, and how many characters
    are lost.
    """
    if not isinstance(text, str):
        raise BadText(None)
    parts = text.split("\n")
    # What stands behind the last line feed is no line.
    lines = [without_check(index, part) for index, part in enumerate(parts[:-1])]
    family = read_family(lines[0]) if len(lines) > 0 else None
    if family is None:
        return None, len(text)
    archive = Archive(family)
    kept = 1
    while kept < len(lines) and is_made(archive, lines[kept]):
        kept += 1
    return archive, len("\n".join(parts[kept:]))


def is_made(archive, line):
    """Make the change that a line tells; return whether it tells one that can be made."""
    change = read_change(line)
    if change is None:
        return False
    try:
        make_change(archive, change)
    except (BadPage, UnknownName):
        return False
    return True


def with_check(index, line):
    """Return a line with its check number behind it."""
    return f"{line}{CHECK_MARK}{check_sum(index, line)}"


def without_check(index, part):
    """Return a line without its check number, which tells nothing if that is wrong."""
    line = part.rpartition(CHECK_MARK)[0]
    return line if part == with_check(index, line) else ""
