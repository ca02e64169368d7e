"""What becomes of a network and its distances when lengths change."""

from lendroads.calm import calm_joins
from lendroads.checks import check_known_edge, check_known_node
from lendroads.distances import distance
from lendroads.edgesets import EdgeSet
from lendroads.errors import NotJoined
from lendroads.networks import Network
from lendroads.pairing import joins_without
from lendroads.rules import turned_edges


def turned(network, *names):
    """The network in which the lengths of these edges have the opposite signs."""
    chosen = EdgeSet.listed(network, names)
    return Network(network.nodes, turned_edges(network.edges, chosen.names))


def distance_under(network, u, v, **lengths):
    """The distance in the network in which the edges with these names have these lengths."""
    check_known_node(network, u)
    check_known_node(network, v)
    return distance(network.with_listed_lengths(lengths), u, v)


def distance_range(network, u, v, name):
    """The least and the greatest distance while an edge has any length for which the network is calm."""
    check_known_node(network, u)
    check_known_node(network, v)
    check_known_edge(network, name)
    if calm_joins(network).least_length((u, v)) is None:
        raise NotJoined()
    _, x, y, _ = network[name]
    others = joins_without(network.edges, name)
    without = others.least_length((u, v))
    if without is None:
        # All paths pass the edge, and it may have every length.
        return None, None
    around = others.least_length((x, y))
    if around is None:
        # No path between the two nodes passes the edge.
        return without, without
    # At its least length, the edge and a shortest path around it have the length 0 together.
    through = others.least_length((u, v, x, y)) - around
    return min(without, through), without
