"""Archives of pages under names, with standing questions (11, 15)."""

from surelyhas.arguments import check_family, check_question
from surelyhas.errors import BadArgument, BadName, BadPieces, NameTaken, UnknownName
from surelyhas.kinds import is_piece
from surelyhas.reckoning import OPEN, SURELY, AnswerBook
from surelyhas.words import is_name

PART_SIZE = 4


class Archive:
    """Pages under names, from whose pieces questions are answered."""

    def __init__(self, family):
        check_family(family)
        self._family = family
        # By names, each page with the tuple of its pieces.
        self._pages = {}
        # Lists of names, the eldest part first; the last one is the newest part, which is never closed.
        self._parts = [[]]
        self._changes = []
        # By names, each standing question with the tuple of the pages that met it when its news were told last.
        self._standing = {}
        # All this as it was when a with statement began.
        self._old_pages = {}
        self._old_parts = [[]]
        self._old_changes = []
        self._old_standing = {}

    def __len__(self):
        return len(self._pages)

    def __contains__(self, value):
        return is_name(value) and value in self._pages

    def __eq__(self, other):
        return isinstance(other, Archive) and self._family == other._family and self._pages == other._pages

    def __enter__(self):
        self._old_pages = dict(self._pages)
        self._old_parts = [list(part) for part in self._parts]
        self._old_changes = list(self._changes)
        self._old_standing = dict(self._standing)
        return self

    def __exit__(self, kind, value, trace):
        if kind is not None:
            self._pages = self._old_pages
            self._parts = self._old_parts
            self._changes = self._old_changes
            self._standing = self._old_standing

    @property
    def family(self):
        """The family."""
        return self._family

    @property
    def names(self):
        """The ascending list of the names."""
        return sorted(self._pages)

    @property
    def parts(self):
        """The list of the parts that are not empty, as ascending lists of names, the eldest first."""
        return [sorted(part) for part in self._parts if len(part) > 0]

    @property
    def changes(self):
        """The list of all changes since the archive was made, in order."""
        return list(self._changes)

    def put(self, name, page):
        """Put a page, instead of one with this name, if there is one."""
        if not is_name(name):
            raise BadName(name)
        found = self._family.of(page)
        self._take_out(name)
        self._pages[name] = (page, tuple(found))
        self._parts[-1].append(name)
        if len(self._parts[-1]) == PART_SIZE:
            self._parts.append([])
        self._changes.append(("put", name, page))

    def drop(self, name):
        """Drop a page."""
        self._check_known(name)
        self._take_out(name)
        self._changes.append(("drop", name))

    def merge(self):
        """Merge all parts into one, if there are pages."""
        self._parts = [sorted(self._pages), []]
        self._changes.append(("merge",))

    def page(self, name):
        """Return the page under a name."""
        self._check_known(name)
        return self._pages[name][0]

    def found(self, name):
        """Return the list of the pieces of the page under a name."""
        self._check_known(name)
        return list(self._pages[name][1])

    def listed(self, piece):
        """Return the list of a piece: the ascending names of the pages that have it."""
        if not is_piece(piece, self._family.pieces):
            raise BadPieces(piece)
        return [name for name in self.names if piece in self._pages[name][1]]

    def answers(self, question):
        """Return a dict from all names to the answers from the pieces of their pages."""
        check_question(question)
        book = AnswerBook(self._family, question)
        return {name: book.answer(self._pages[name][1]) for name in self.names}

    def find(self, question):
        """Return (names, looked): the pages that meet a question, and those that had to be looked at."""
        told = self.answers(question)
        looked = [name for name in self.names if told[name] == OPEN]
        met = [name for name in looked if question.meets(self._pages[name][0])]
        return [name for name in self.names if told[name] == SURELY or name in met], looked

    def stand(self, name, question):
        """Make a standing question under a name."""
        if not is_name(name):
            raise BadName(name)
        check_question(question)
        if name in self._standing:
            raise NameTaken(name)
        self._standing[name] = (question, self._meeting(question))

    def news(self, name):
        """Return (came, gone): the pages that meet a standing question now and did not, and that did and do not."""
        self._check_standing(name)
        question, before = self._standing[name]
        now = self._meeting(question)
        self._standing[name] = (question, now)
        return [page for page in now if page not in before], [page for page in before if page not in now]

    def fall(self, name):
        """Take a standing question away."""
        self._check_standing(name)
        del self._standing[name]

    def _check_known(self, name):
        if name not in self:
            raise UnknownName(name)

    def _check_standing(self, name):
        if not is_name(name) or name not in self._standing:
            raise UnknownName(name)

    def _meeting(self, question):
        """Return the ascending tuple of the pages that meet a question."""
        met, _ = self.find(question)
        return tuple(met)

    def _take_out(self, name):
        """Take a page away from its part, if there is one with this name."""
        if name in self._pages:
            del self._pages[name]
            self._parts = [[other for other in part if other != name] for part in self._parts]


def check_archive(archive):
    """Raise BadArgument if a value is no archive."""
    if not isinstance(archive, Archive):
        raise BadArgument(archive)
