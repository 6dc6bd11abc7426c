"""The errors of the package."""


class TellError(ValueError):
    """The base of the errors about values, texts and books."""


class InvalidTree(TellError):
    """A value is not a tree: its first fault."""

    def __init__(self, path, reason):
        self.path = path
        self.reason = reason


class TooMany(TellError):
    """A tree would have more than VERTICES vertices."""


class LastVertex(TellError):
    """The only vertex of a tree cannot be removed."""


class NotLeaf(TellError):
    """The vertex has more than one neighbour."""

    def __init__(self, vertex):
        self.vertex = vertex


class NotPlain(TellError):
    """The tree is not plain."""


class TooSmall(TellError):
    """The tree has one vertex."""


class TooLarge(TellError):
    """The tree has more vertices than the limit."""

    def __init__(self, limit):
        self.limit = limit


class TooLate(TellError):
    """The time is greater than the limit."""

    def __init__(self, limit):
        self.limit = limit


class OutOfRange(TellError):
    """A number is outside of its range."""


class UnknownLimit(TellError):
    """There is no limit with this name."""

    def __init__(self, name):
        self.name = name


class TooManyActions(TellError):
    """The book keeps no more actions."""


class Busy(TellError):
    """The book is performing a batch."""


class NothingToUndo(TellError):
    """The book keeps no action."""


class InvalidBatch(TellError):
    """The value is not a batch of actions."""


class BatchFailed(TellError):
    """The action with this index raised an error."""

    def __init__(self, index):
        self.index = index


class InvalidDelay(TellError):
    """The value is not a delay."""

    def __init__(self, delay):
        self.delay = delay


class InBranch(TellError):
    """The target belongs to the branch that would be moved to it."""

    def __init__(self, target):
        self.target = target


class TooSlow(TellError):
    """The least need of all sources would be greater than the bound."""

    def __init__(self, least):
        self.least = least


class ParseError(TellError):
    """The text is wrong at this index or line; None if it is not a text."""

    def __init__(self, place):
        self.place = place


class NoSuchVertex(LookupError):
    """The value is not a vertex of the tree."""

    def __init__(self, vertex):
        self.vertex = vertex


class NoSuchEdge(LookupError):
    """The two vertices are not neighbours."""

    def __init__(self, vertex, away):
        self.vertex = vertex
        self.away = away


class NoSuchStep(LookupError):
    """The value is not a number of kept actions."""

    def __init__(self, step):
        self.step = step
