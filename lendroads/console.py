"""A console: lines of text for a book, and texts as the answers."""

from lendroads.books import Book
from lendroads.commands import commands_of, is_trial
from lendroads.cycles import fall
from lendroads.distances import distance, distances
from lendroads.joins import join_length
from lendroads.steps import PARTS
from lendroads.survey import table
from lendroads.texts import number_text


class Console:
    """A book that is used by lines of text."""

    def __init__(self, *nodes):
        self._book = Book(nodes)

    @property
    def book(self):
        """The book itself."""
        return self._book

    def run(self, line):
        """Executes a line and returns its answer."""
        commands = commands_of(line)
        if not is_trial(line):
            return _answer(self._book, commands[0])
        with self._book.trial():
            return "\n".join([_answer(self._book, command) for command in commands])

    def __call__(self, line):
        return self.run(line)


def _answer(book, command):
    """Executes a command and returns its answer."""
    word, *more = command
    if word in PARTS:
        book.change(command)
        return "ok"
    if word == "undo":
        book.undo(*more)
        return "ok"
    if word == "redo":
        book.redo(*more)
        return "ok"
    if word == "calm":
        return "yes" if book.is_calm() else "no"
    return _answer_about(book.network, word, more)


def _answer_about(network, word, names):
    """The answer to a command that only asks about the network."""
    if word == "far":
        return number_text(distance(network, *names)) if len(names) == 2 else _lines_from(network, names[0])
    if word == "least":
        return number_text(join_length(network, *names))
    if word == "fall":
        return number_text(fall(network, names[0]))
    if word == "table":
        return table(network, *names)
    return network.text


def _lines_from(network, node):
    """The lines of the distances of all nodes from one."""
    far = distances(network, node)
    return "\n".join([f"{other} {number_text(far[other])}" for other in far])
