"""The refusals: each a class of its own, with the fields that tell what was refused."""


class NoLibrary(LookupError):
    """The shelf has no library of this name."""

    def __init__(self, name):
        self.name = name


class Unmet(LookupError):
    """A use of this word, of a library of this name, must have a meaning and has none."""

    def __init__(self, name, word):
        self.name = name
        self.word = word


class Closed(ValueError):
    """The instance isn't held, or the hold is another hall's."""


class Ended(RuntimeError):
    """The hall has ended."""


class NoWord(KeyError):
    """This word means nothing there."""

    def __init__(self, word):
        self.word = word


class Full(OverflowError):
    """The shelf has no place for one more library."""


class NoText(ValueError):
    """No text that writes what is asked for goes on with the line of this number."""

    def __init__(self, line):
        self.line = line


class NotTaken(IndexError):
    """No stretch begins at this address."""

    def __init__(self, at):
        self.at = at


class Vacant(IndexError):
    """No image lies at this address."""

    def __init__(self, address):
        self.address = address


class NoRow(ValueError):
    """What was said is no row of the desk, or wants a hall that there isn't."""
