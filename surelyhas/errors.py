"""The errors of this package. Each but the first is made with one field, which may be any value."""


class HasError(Exception):
    """The base class of all errors of this package."""


class BadArgument(HasError):
    """A value that is not of the class that its argument asks for."""

    def __init__(self, value):
        self.value = value


class BadLine(HasError):
    """A value that is no line, or no single letter where one is wanted."""

    def __init__(self, value):
        self.value = value


class BadPage(HasError):
    """A value that is no page, or none over the signs."""

    def __init__(self, value):
        self.value = value


class BadPieces(HasError):
    """A value that is not the wanted pieces, numbers or state."""

    def __init__(self, value):
        self.value = value


class BadName(HasError):
    """A value that is no name."""

    def __init__(self, value):
        self.value = value


class BadSigns(HasError):
    """A value that is no signs."""

    def __init__(self, value):
        self.value = value


class BadQuestion(HasError):
    """No list of questions, or the number of patterns where there are too many."""

    def __init__(self, value):
        self.value = value


class BadPrice(HasError):
    """A value that is no price of a look."""

    def __init__(self, value):
        self.value = value


class BadDepth(HasError):
    """A value that is no place at which a search can begin."""

    def __init__(self, value):
        self.value = value


class UnknownName(HasError):
    """A value that is no name of something kept."""

    def __init__(self, name):
        self.name = name


class NameTaken(HasError):
    """A name under which there is something already."""

    def __init__(self, name):
        self.name = name


class BadPattern(HasError):
    """No pattern: the index at which its text goes wrong; None if it is no text, or for no position."""

    def __init__(self, at):
        self.at = at


class BadText(HasError):
    """A text that cannot be read: the index at which it goes wrong, or None."""

    def __init__(self, at):
        self.at = at


class LimitExceeded(HasError):
    """A family of more pieces than can be gone through."""

    def __init__(self, number):
        self.number = number


class BadCommand(HasError):
    """A line that is no command."""

    def __init__(self, line):
        self.line = line
