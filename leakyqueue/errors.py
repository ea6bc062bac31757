"""The errors of the package. Each one keeps the very value that it was created with."""


class LeakError(ValueError):
    """A value that is not of the required form."""


class InvalidWord(LeakError):
    """A value that must be a word is not one."""

    def __init__(self, value):
        self.value = value


class InvalidProgram(LeakError):
    """A value that must be a program is not one."""

    def __init__(self, value):
        self.value = value


class InvalidCore(LeakError):
    """A value that must be the core of takes and puts is not one."""

    def __init__(self, value):
        self.value = value


class InvalidEffect(LeakError):
    """The argument at this index, or the only one, is not an effect."""

    def __init__(self, index):
        self.index = index


class InvalidExchange(LeakError):
    """A value is not an index at which an exchange keeps the effect."""

    def __init__(self, value):
        self.value = value


class InvalidNumber(LeakError):
    """A value is not an integer in the required range."""

    def __init__(self, value):
        self.value = value


class InvalidSet(LeakError):
    """The item at this index, or the whole value, does not form a set of queues."""

    def __init__(self, index):
        self.index = index


class InvalidNetwork(LeakError):
    """The channel or process of this name, or a whole argument, does not form a network."""

    def __init__(self, name):
        self.name = name


class InvalidPrograms(LeakError):
    """The item at this index, or the whole value, does not form a list of programs."""

    def __init__(self, index):
        self.index = index


class InvalidObservations(LeakError):
    """The item at this index, or the whole value, does not form a list of observations."""

    def __init__(self, index):
        self.index = index


class ParseError(LeakError):
    """A value is not the text of what is to be read from it."""

    def __init__(self, value):
        self.value = value


class InvalidCommand(LeakError):
    """A value is not a command of the console."""

    def __init__(self, value):
        self.value = value


class InvalidPosition(IndexError):
    """A value is not the position of an item, or the position occurred before."""

    def __init__(self, value):
        self.value = value


class Missing(LookupError):
    """The item to take cannot be at the front."""

    def __init__(self, item):
        self.item = item


class UnknownName(KeyError):
    """There is no session of this name."""

    def __init__(self, name):
        self.name = name


class LimitExceeded(OverflowError):
    """There would be more than this limit allows."""

    def __init__(self, limit):
        self.limit = limit


class Failed(RuntimeError):
    """The step at this index of a program cannot be performed."""

    def __init__(self, index):
        self.index = index


class NothingToUndo(RuntimeError):
    """There are fewer steps to cancel, or to perform again, than this count."""

    def __init__(self, count):
        self.count = count
