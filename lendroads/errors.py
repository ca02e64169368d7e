"""The errors of the package, each a direct subclass of an error of Python."""


class InvalidNode(ValueError):
    """A value is not a name for a new node of a network."""

    def __init__(self, value):
        self.value = value


class InvalidEdge(ValueError):
    """A value is not a new edge of a network."""

    def __init__(self, value):
        self.value = value


class InvalidLength(ValueError):
    """A value is not the length of an edge, or not the lengths of a ring."""

    def __init__(self, value):
        self.value = value


class InvalidText(ValueError):
    """A text is not the text of a network: the line with this index cannot stand."""

    def __init__(self, line):
        self.line = line


class InvalidNodes(ValueError):
    """Nodes that must be different are not."""

    def __init__(self, value):
        self.value = value


class InvalidChange(ValueError):
    """The change with this index is not one of the tuples that a book knows."""

    def __init__(self, index):
        self.index = index


class InvalidCommand(ValueError):
    """A value is not a line that a console knows."""

    def __init__(self, line):
        self.line = line


class NotPath(ValueError):
    """The edge with this index does not continue a path."""

    def __init__(self, index):
        self.index = index


class NotCalm(ValueError):
    """A network is not calm: this edge set is a cycle with a negative length."""

    def __init__(self, cycle):
        self.cycle = cycle


class NotLeast(ValueError):
    """A join is not a least one: this edge set has the same odd nodes and a lesser length."""

    def __init__(self, better):
        self.better = better


class OtherNetwork(ValueError):
    """Two objects belong to networks that are not equal."""


class NotJoined(ValueError):
    """Two nodes are not connected, or a path does not start where another one ends."""


class UnknownNode(KeyError):
    """A value is not a node of the network, or no longer one."""

    def __init__(self, value):
        self.value = value


class UnknownEdge(KeyError):
    """A value is not the name of an edge of the network, or no longer one."""

    def __init__(self, value):
        self.value = value


class OutOfRange(IndexError):
    """A value is not an index or a number in the range that is needed."""

    def __init__(self, value):
        self.value = value


class TooMany(OverflowError):
    """There are more things than this limit."""

    def __init__(self, limit):
        self.limit = limit


class NothingToUndo(RuntimeError):
    """A book has fewer steps than are to be undone."""


class NothingToRedo(RuntimeError):
    """A book has fewer undone steps than are to be done again."""


class InTrial(RuntimeError):
    """A book is within a trial, where steps are neither undone nor done again."""
