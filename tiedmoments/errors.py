"""The errors of the package; each one bears its class name as its code."""


class LogError(ValueError):
    """A value is wrong; the base class of most errors."""


class InvalidName(LogError):
    """A value stands where a name must stand, and is none."""

    def __init__(self, value):
        self.code = "InvalidName"
        self.value = value


class InvalidRow(LogError):
    """The row with an index is no pair of a name and a list."""

    def __init__(self, at):
        self.code = "InvalidRow"
        self.at = at


class DuplicateName(LogError):
    """A name that must be new is taken."""

    def __init__(self, name):
        self.code = "DuplicateName"
        self.name = name


class InvalidStep(LogError):
    """An item of the row of a process is no step."""

    def __init__(self, process, index):
        self.code = "InvalidStep"
        self.process = process
        self.index = index


class DuplicateMessage(LogError):
    """A message is sent twice or received twice."""

    def __init__(self, message):
        self.code = "DuplicateMessage"
        self.message = message


class Unsent(LogError):
    """A message is received and not sent."""

    def __init__(self, message):
        self.code = "Unsent"
        self.message = message


class Ring(LogError):
    """A process cannot come to its end, as steps wait for one another."""

    def __init__(self, process):
        self.code = "Ring"
        self.process = process


class TooMany(LogError):
    """There are more things of a kind than there may be."""

    def __init__(self, subject, most):
        self.code = "TooMany"
        self.subject = subject
        self.most = most


class InvalidPoint(LogError):
    """A value is no point of a log."""

    def __init__(self, value):
        self.code = "InvalidPoint"
        self.value = value


class InvalidMoment(LogError):
    """A value is no moment of a log."""

    def __init__(self, value):
        self.code = "InvalidMoment"
        self.value = value


class InvalidClause(LogError):
    """The item of a condition with an index is no clause."""

    def __init__(self, at):
        self.code = "InvalidClause"
        self.at = at


class Parted(LogError):
    """A clause holds at two moments, and not at their meet or not at their join."""

    def __init__(self, at, one, other):
        self.code = "Parted"
        self.at = at
        self.one = one
        self.other = other


class UnlikeLogs(LogError):
    """Two logs do not go together."""

    def __init__(self):
        self.code = "UnlikeLogs"


class EmptyLot(LogError):
    """A lot has no moment."""

    def __init__(self):
        self.code = "EmptyLot"


class InvalidNumber(LogError):
    """A value is no number of the range that is asked for."""

    def __init__(self, value):
        self.code = "InvalidNumber"
        self.value = value


class InvalidWeights(LogError):
    """A value is no weights."""

    def __init__(self):
        self.code = "InvalidWeights"


class Uneven(LogError):
    """The weight of a block is not from -1 to 1."""

    def __init__(self, block):
        self.code = "Uneven"
        self.block = block


class InvalidTests(LogError):
    """The item of tests with an index is no test."""

    def __init__(self, at):
        self.code = "InvalidTests"
        self.at = at


class InvalidText(LogError):
    """The part of a text with an index cannot be read."""

    def __init__(self, at):
        self.code = "InvalidText"
        self.at = at


class InvalidCommand(LogError):
    """The value with an index is no command."""

    def __init__(self, at):
        self.code = "InvalidCommand"
        self.at = at


class Full(LogError):
    """There are as many watches as there may be."""

    def __init__(self, limit):
        self.code = "Full"
        self.limit = limit


class InvalidLimit(LogError):
    """A value is no limit."""

    def __init__(self, value):
        self.code = "InvalidLimit"
        self.value = value


class InvalidPage(LogError):
    """The line of a page with an index cannot stand there."""

    def __init__(self, line):
        self.code = "InvalidPage"
        self.line = line


class Missing(LookupError):
    """A thing that is asked for is not there; a base class."""


class UnknownProcess(Missing):
    """A log has no process with this name."""

    def __init__(self, name):
        self.code = "UnknownProcess"
        self.name = name


class UnknownStep(Missing):
    """A log has no such step."""

    def __init__(self, step):
        self.code = "UnknownStep"
        self.step = step


class UnknownName(Missing):
    """There is no watch with this name."""

    def __init__(self, name):
        self.code = "UnknownName"
        self.name = name


class NothingLeft(IndexError):
    """No step of the history is left to undo or to redo."""

    def __init__(self):
        self.code = "NothingLeft"
