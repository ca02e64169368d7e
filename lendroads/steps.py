"""The changes that books make: tuples of a word and what it is about."""

from lendroads.checks import check_known_edge
from lendroads.errors import InvalidChange

# The number of the parts of a change, by its word, which is the first of them.
PARTS = {"node": 2, "drop": 2, "edge": 5, "cut": 2, "length": 3}


def check_changes(changes):
    """Raises InvalidChange for the first value that is not a change; only its word and its size are looked at."""
    for index, change in enumerate(changes):
        if not _is_change(change):
            raise InvalidChange(index)


def _is_change(value):
    """True if any value is a tuple that begins with the word of a change and has as many parts as it."""
    if not isinstance(value, tuple) or not value or not isinstance(value[0], str):
        return False
    return PARTS.get(value[0]) == len(value)


def network_after(network, changes):
    """The network that changes lead to, one after the other."""
    for change in changes:
        network = _changed(network, change)
    return network


def _changed(network, change):
    """The network that one change leads to."""
    word, name, *more = change
    if word == "node":
        return network.with_nodes(name)
    if word == "drop":
        return network.without_nodes(name)
    if word == "edge":
        return network.with_edges((name, *more))
    if word == "cut":
        return network.without_edges(name)
    # Any value may stand for the name, so it is not used as a key before it is known.
    check_known_edge(network, name)
    return network.with_listed_lengths({name: more[0]})
