"""Books: networks under changes, which can be undone and tried."""

from lendroads.calm import calm_certificate, check_calm, is_calm
from lendroads.distances import distance, shortest_path
from lendroads.errors import InTrial, NothingToRedo, NothingToUndo, OutOfRange
from lendroads.history import History, Trial
from lendroads.networks import Network
from lendroads.rules import is_whole
from lendroads.steps import check_changes, network_after


class Book:
    """A network and the steps that led to it."""

    def __init__(self, nodes, edges=()):
        self._history = History(Network(nodes, edges))

    @property
    def network(self):
        """The present network."""
        return self._history.present

    @property
    def undoable(self):
        """The number of steps that can be undone; within a trial, at its beginning."""
        return len(self._history.done)

    @property
    def redoable(self):
        """The number of steps that can be redone; within a trial, at its beginning."""
        return len(self._history.undone)

    @property
    def depth(self):
        """The number of trials that have not ended."""
        return self._history.nesting

    def __eq__(self, other):
        return isinstance(other, Book) and self._history.present == other._history.present

    def change(self, *changes):
        """Makes these changes, one after the other, as one step."""
        check_changes(changes)
        network = network_after(self._history.present, changes)
        self._check(network)
        self._history.move_to(network)
        self._history.entries.append(("change", changes))

    def undo(self, count=1):
        """Takes so many steps back."""
        self._check_count(count)
        if count > len(self._history.done):
            raise NothingToUndo()
        self._history.go_back(count)
        self._history.entries.append(("undo", count))

    def redo(self, count=1):
        """Makes so many steps again that were undone."""
        self._check_count(count)
        if count > len(self._history.undone):
            raise NothingToRedo()
        self._history.go_forward(count)
        self._history.entries.append(("redo", count))

    def is_calm(self):
        """True if no cycle of the present network has a negative length."""
        return is_calm(self._history.present)

    def distance(self, u, v):
        """The distance of two nodes in the present network, or None."""
        return distance(self._history.present, u, v)

    def shortest_path(self, u, v):
        """A shortest path of the present network, or None."""
        return shortest_path(self._history.present, u, v)

    def certificate(self):
        """A calm certificate of the present network."""
        return calm_certificate(self._history.present)

    def trial(self):
        """A new object for one block of changes."""
        return Trial(self._history)

    def in_trial(self, call):
        """What the call returns, which is made with the object of a trial around it."""
        with self.trial() as trial:
            return call(trial)

    def _check(self, network):
        """Raises the error of a network that the book cannot go on to; a plain book can go on to each."""

    def _check_count(self, count):
        """Raises the errors of any value that is not a number of steps, or now cannot be one."""
        if self._history.nesting > 0:
            raise InTrial()
        if not is_whole(count) or count < 1:
            raise OutOfRange(count)


class CalmBook(Book):
    """A book whose network is always calm."""

    def __init__(self, nodes, edges=()):
        super().__init__(nodes, edges)
        check_calm(self._history.present)

    def _check(self, network):
        """Raises NotCalm if the network is not calm."""
        check_calm(network)


class LoggedBook(Book):
    """A book that shows what was done in it."""

    @property
    def log(self):
        """The changes, the steps back and forward and the trials, a tuple of tuples, in the order of their ends."""
        return tuple(self._history.entries)


class CalmLoggedBook(CalmBook, LoggedBook):
    """A book whose network is always calm, and that shows what was done in it."""
