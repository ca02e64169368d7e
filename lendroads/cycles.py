"""Shortest cycles in calm networks, and how far the lengths of edges may fall."""

from lendroads.calm import check_calm
from lendroads.checks import check_known_edge
from lendroads.edgesets import EdgeSet
from lendroads.pairing import joins_without
from lendroads.paths import path_within


def shortest_cycle(network):
    """A cycle of least length, an edge set, or None if there is no cycle."""
    lengths = _lengths_through(network)
    if not lengths:
        return None
    return _cycle_through(network, min([(lengths[name], name) for name in lengths])[1])


def shortest_cycle_through(network, name):
    """A cycle of least length among those that contain an edge, or None if there is none."""
    check_known_edge(network, name)
    check_calm(network)
    return _cycle_through(network, name)


def fall(network, name):
    """By how much the length of an edge may fall while the network stays calm, or None if it is in no cycle."""
    check_known_edge(network, name)
    check_calm(network)
    return _length_through(network, name)


def free_edges(network):
    """The names of the edges that are in a cycle with the length 0, a tuple, ascending."""
    lengths = _lengths_through(network)
    return tuple([name for name in lengths if lengths[name] == 0])


def _lengths_through(network):
    """A dict from the edges that are in a cycle, ascending, to the least lengths of these cycles."""
    check_calm(network)
    lengths = {name: _length_through(network, name) for name in network.names}
    return {name: lengths[name] for name in lengths if lengths[name] is not None}


def _length_through(network, name):
    """The least length of a cycle that contains an edge, or None if there is none."""
    _, u, v, length = network[name]
    # The rest of the cycle is a path between the ends of the edge, and a shortest one.
    rest = joins_without(network.edges, name).least_length((u, v))
    return None if rest is None else length + rest


def _cycle_through(network, name):
    """A cycle of least length among those that contain an edge, or None if there is none."""
    _, u, v, _ = network[name]
    least_joins = joins_without(network.edges, name)
    if least_joins.least_length((u, v)) is None:
        return None
    path = path_within(EdgeSet.listed(network, least_joins.least_names((u, v))), u, v)
    return EdgeSet.listed(network, [name, *path.edges])
