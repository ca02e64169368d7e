"""Distances and shortest paths in calm networks."""

from lendroads.calm import calm_joins
from lendroads.edgesets import EdgeSet
from lendroads.pairing import joins_without
from lendroads.paths import path_within


def distance(network, u, v):
    """The least length of a path between two nodes, or None if there is none."""
    return calm_joins(network, u, v).least_length((u, v))


def distances(network, u):
    """A dict from all nodes, in ascending order, to their distances from u."""
    least_joins = calm_joins(network, u)
    return {v: least_joins.least_length((u, v)) for v in network.nodes}


def shortest_path(network, u, v):
    """A path from u to v of least length, or None if there is none."""
    least_joins = calm_joins(network, u, v)
    if least_joins.least_length((u, v)) is None:
        return None
    # Every path between the two nodes in a least join for them is a shortest one.
    return path_within(EdgeSet.listed(network, least_joins.least_names((u, v))), u, v)


def is_shortest(path):
    """True if no path between the same nodes has a lesser length."""
    return path.length == distance(path.network, path.start, path.end)


def needed_edges(network, u, v):
    """The names of the edges that all shortest paths from u to v pass, ascending, or None if there is no path."""
    path = shortest_path(network, u, v)
    if path is None:
        return None
    return tuple([name for name in sorted(path.edges) if _is_needed(path, name)])


def _is_needed(path, name):
    """True if there is no path of the same length that does not pass this edge of a shortest path."""
    others = joins_without(path.network.edges, name)
    return others.least_length((path.start, path.end)) != path.length
