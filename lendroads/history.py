"""What a book remembers, and the trials that are made in it."""


class History:
    """The present network, the steps that led to it, those that were undone, and the log."""

    def __init__(self, network):
        self.present = network
        # The networks before each step, the oldest first.
        self.done = []
        # The networks after each undone step, the one to redo first at the end.
        self.undone = []
        # The number of trials that have not ended.
        self.nesting = 0
        # Each history keeps a log; only some books show it.
        self.entries = []

    def move_to(self, network):
        """Goes on to a network: as a step, or as a part of the outermost trial."""
        if self.nesting == 0:
            self.done.append(self.present)
            self.undone.clear()
        self.present = network

    def go_back(self, count):
        """Undoes so many steps; there must be as many."""
        self._go(count, self.done, self.undone)

    def go_forward(self, count):
        """Redoes so many steps; there must be as many."""
        self._go(count, self.undone, self.done)

    def _go(self, count, ahead, behind):
        """So many times, puts the present network at the end of those behind, and takes the last one ahead instead."""
        for _ in range(count):
            behind.append(self.present)
            self.present = ahead.pop()


class Trial:
    """One block of changes that are taken back at its end, unless they are to be kept."""

    def __init__(self, history):
        self._history = history
        self._done = history.done
        self._undone = history.undone
        self._entries = history.entries
        self._before = None
        self._nesting = 0
        # True within another trial, otherwise None.
        self._inner = None
        # True as soon as the changes are to be kept, before that None.
        self._keeping = None
        self._kept = False

    @property
    def kept(self):
        """True if the block has ended and its changes were kept."""
        return self._kept

    def keep(self):
        """Lets the changes of the block be kept at its end."""
        self._keeping = True

    def __enter__(self):
        history = self._history
        self._before = history.present
        self._nesting = history.nesting
        if self._nesting > 0:
            self._inner = True
        history.nesting = self._nesting + 1
        return self

    def __exit__(self, kind, value, trace):
        history = self._history
        history.nesting = self._nesting
        if kind is not None or self._keeping is None:
            history.present = self._before
            self._entries.append(("trial", False))
        else:
            self._kept = True
            self._entries.append(("trial", True))
            # What an inner trial keeps is a part of the outer one, and no step of its own.
            if self._inner is None:
                self._done.append(self._before)
                self._undone.clear()
