"""The errors of the package: every one is a FaultError."""


class FaultError(ValueError):
    """Something is not as the document requires it."""


class BadPlant(FaultError):
    """No plant: part is 0 for its parts, 1 for its gates, 2 for its causes, 3 for its top."""

    def __init__(self, part):
        super().__init__(f"number {part!r} of parts, gates, causes and top is not as documented")
        self.part = part


class NoPart(FaultError):
    """The value at an index is no part, or not one that may stand there."""

    def __init__(self, index):
        super().__init__(f"no part at index {index!r}")
        self.index = index


class NoSensor(FaultError):
    """The value at an index is no part and no gate, or occurs before."""

    def __init__(self, index):
        super().__init__(f"no sensor at index {index!r}")
        self.index = index


class NoEvent(FaultError):
    """The value at an index is no event that is possible when it comes."""

    def __init__(self, index):
        super().__init__(f"no event that is possible at index {index!r}")
        self.index = index


class NoNumber(FaultError):
    """A value is not the integer that is asked for."""

    def __init__(self, number):
        super().__init__(f"not a number as documented: {number!r}")
        self.number = number


class NoOdds(FaultError):
    """A value is no odds of a plant."""


class BadMachine(FaultError):
    """The values for a machine are not as documented."""


class Mismatch(FaultError):
    """Two plants do not have the same names of parts."""


class TooMany(FaultError):
    """A search came to more than most states, pairs or knowledges."""

    def __init__(self, most):
        super().__init__(f"more than {most!r}")
        self.most = most


class NoOperation(FaultError):
    """The value at an index does not have the form of an operation."""

    def __init__(self, index):
        super().__init__(f"no operation at index {index!r}")
        self.index = index


class NothingLeft(FaultError):
    """There is no operation to take back, or to do again."""


class BadText(FaultError):
    """A line of a text is malformed or not allowed at its place."""

    def __init__(self, line):
        super().__init__(f"not as documented at line {line!r}")
        self.line = line
