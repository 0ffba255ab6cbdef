"""A console for one archive (19)."""

from surelyhas.archives import Archive
from surelyhas.choices import cheapest_sharp
from surelyhas.commands import make_change, read_change, read_family
from surelyhas.errors import BadCommand
from surelyhas.questions import read_question
from surelyhas.words import is_word

DONE = "ok"
NOTHING = "-"
ALONE = ("names", "parts")
WITH_WORD = "list"
WITH_QUESTION = ("ask", "find", "lists")


class Console:
    """Executes commands on an archive of its own, of which there is none at first."""

    def __init__(self):
        self._archive = None

    @property
    def archive(self):
        """The archive, or None."""
        return self._archive

    def execute(self, line):
        """Execute a command and return its answer."""
        if not isinstance(line, str):
            raise BadCommand(line)
        family = read_family(line)
        if family is not None:
            self._archive = Archive(family)
            return DONE
        change = read_change(line)
        if self._archive is None or (change is None and not is_asking(line)):
            raise BadCommand(line)
        if change is None:
            return joined_answer(told_by(self._archive, line))
        make_change(self._archive, change)
        return DONE


def is_asking(line):
    """Return whether a line is a command that asks for something."""
    word, space, rest = line.partition(" ")
    if space == "":
        return word in ALONE
    return word in WITH_QUESTION or (word == WITH_WORD and is_word(rest))


def told_by(archive, line):
    """Return the list of what is told for a command that asks for something."""
    word, _, rest = line.partition(" ")
    if word == "names":
        return archive.names
    if word == "parts":
        return [",".join(part) for part in archive.parts]
    if word == "list":
        return archive.listed(rest)
    return told_of(archive, word, read_question(rest))


def told_of(archive, word, question):
    """Return the list of what is told of a question, for the first word of a command."""
    if word == "ask":
        answers = archive.answers(question)
        return [f"{name}={answers[name]}" for name in archive.names]
    if word == "find":
        return archive.find(question)[0]
    return cheapest_sharp(archive, question)[0]


def joined_answer(told):
    """Return an answer that tells several things."""
    return " ".join(told) if len(told) > 0 else NOTHING
