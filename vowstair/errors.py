"""The errors of the package. Each has its class's name as `code`."""


class VowError(ValueError):
    """A value or a text that the package does not take."""

    def __init__(self):
        self.code = self.__class__.__name__


class InvalidLevels(VowError):
    """A number of levels, or a level, that there is not."""


class InvalidStair(VowError):
    """A value that is no stair of the levels that are asked for."""


class InvalidRow(VowError):
    """A value that is no row of the levels that are asked for."""


class LevelsDiffer(VowError):
    """Meanings of different levels that were to be taken together."""


class InvalidName(VowError):
    """A string that is no name, or no doer."""

    def __init__(self, name):
        VowError.__init__(self)
        self.name = name


class DuplicateName(VowError):
    """A name, or a doer, that is there already."""

    def __init__(self, name):
        VowError.__init__(self)
        self.name = name


class InvalidSentence(VowError):
    """A value that is no sentence; index tells which of several."""

    def __init__(self, index):
        VowError.__init__(self)
        self.index = index


class Unguarded(VowError):
    """A name whose sentence has open names."""

    def __init__(self, name):
        VowError.__init__(self)
        self.name = name


class TooMany(VowError):
    """More names, slots or doers than the most that there may be."""

    def __init__(self, most):
        VowError.__init__(self)
        self.most = most


class TooLong(VowError):
    """A sentence with more nodes than the most that it may have."""

    def __init__(self, most):
        VowError.__init__(self)
        self.most = most


class InvalidDoer(VowError):
    """A doer whose rule has open names."""

    def __init__(self, name):
        VowError.__init__(self)
        self.name = name


class InvalidCommand(VowError):
    """A tuple that is no command; index is its place in the list."""

    def __init__(self, index):
        VowError.__init__(self)
        self.index = index


class InvalidLimit(VowError):
    """A limit that is too low or too high."""

    def __init__(self, value):
        VowError.__init__(self)
        self.value = value


class ParseError(VowError):
    """A text that cannot be parsed; line is the index of the line."""

    def __init__(self, line):
        VowError.__init__(self)
        self.line = line


class Missing(LookupError):
    """Something that was looked up and is not there."""

    def __init__(self):
        self.code = self.__class__.__name__


class UnknownName(Missing):
    """A name, or a doer, that nothing is known of."""

    def __init__(self, name):
        Missing.__init__(self)
        self.name = name


class NothingLeft(IndexError):
    """No step is left to be undone or redone."""

    def __init__(self):
        self.code = self.__class__.__name__
