"""The errors of the package. Each one keeps its argument in a field."""


class CarpetError(ValueError):
    """The base class of the errors about invalid values."""


class InvalidNet(CarpetError):
    """The value gives no net."""

    def __init__(self, value):
        self.value = value


class InvalidPlace(CarpetError):
    """The value is not a tuple of two integers."""

    def __init__(self, value):
        self.value = value


class InvalidMotion(CarpetError):
    """The value is not a kind of motion."""

    def __init__(self, value):
        self.value = value


class InvalidRows(CarpetError):
    """The row at the index is wrong, or all of the rows if the index is None."""

    def __init__(self, index):
        self.index = index


class InvalidColour(CarpetError):
    """The value is not a colour, or not a text of colours."""

    def __init__(self, value):
        self.value = value


class InvalidTable(CarpetError):
    """The value is not a dict from colours to colours."""

    def __init__(self, value):
        self.value = value


class InvalidNumber(CarpetError):
    """The value is not an integer within its limits."""

    def __init__(self, value):
        self.value = value


class InvalidObservation(CarpetError):
    """The observation at the index is not a place and a colour."""

    def __init__(self, index):
        self.index = index


class InvalidText(CarpetError):
    """The value is not a text of the required form."""

    def __init__(self, value):
        self.value = value


class InvalidCommand(CarpetError):
    """The value is not a command of the console."""

    def __init__(self, value):
        self.value = value


class LimitExceeded(OverflowError):
    """A size is greater than the limit."""

    def __init__(self, limit):
        self.limit = limit


class NothingToUndo(RuntimeError):
    """A loom has no action to take back, or none to do again."""


class UnknownName(KeyError):
    """No carpet is kept under the name."""

    def __init__(self, name):
        self.name = name


class RunFailed(ArithmeticError):
    """The action at the index could not be done, so that none was."""

    def __init__(self, index):
        self.index = index
