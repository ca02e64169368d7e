"""Calm networks and least joins, and the certificates that show them."""

from lendroads.certificates import is_certificate, nested_certificate
from lendroads.checks import check_known_node
from lendroads.edgesets import EdgeSet
from lendroads.errors import NotCalm, NotLeast, TooMany
from lendroads.limits import MAX_JOIN
from lendroads.pairing import LeastJoins, joins_of
from lendroads.rules import names_of, negative_edges, turned_edges


def is_calm(network):
    """True if no cycle has a negative length."""
    return joins_of(network.edges).least_length(()) == 0


def negative_cycle(network):
    """A cycle with a negative length, or None if the network is calm."""
    join = EdgeSet.listed(network, joins_of(network.edges).least_names(()))
    for cycle in join.split():
        if cycle.length < 0:
            return cycle
    return None


def calm_joins(network, *nodes):
    """What finds the least joins of a calm network; raises UnknownNode for the first that is no node, then NotCalm."""
    for node in nodes:
        check_known_node(network, node)
    least_joins = joins_of(network.edges)
    if least_joins.least_length(()) < 0:
        raise NotCalm(negative_cycle(network))
    return least_joins


def check_calm(network):
    """Raises NotCalm if the network is not calm."""
    calm_joins(network)


def calm_certificate(network):
    """A calm certificate; raises NotCalm if the network is not calm."""
    return nested_certificate(network.nodes, network.edges, calm_joins(network))


def accepts_calm(network, value):
    """True if any value is a calm certificate of the network."""
    return is_certificate(network.nodes, network.edges, value)


def join_certificate(edge_set):
    """A join certificate; raises NotLeast if there is a better join for the same nodes."""
    if len(edge_set.odd) > MAX_JOIN:
        raise TooMany(MAX_JOIN)
    network = edge_set.network
    edges = turned_edges(network.edges, edge_set.names)
    negative = EdgeSet.listed(network, names_of(negative_edges(network.edges)))
    # The turned edges with the length 0 are counted, too: then few nodes are odd.
    least_joins = LeastJoins(edges, (negative ^ edge_set).names)
    if least_joins.least_length(()) < 0:
        raise NotLeast(edge_set ^ EdgeSet.listed(network, least_joins.least_names(())))
    return nested_certificate(network.nodes, edges, least_joins)


def accepts_join(edge_set, value):
    """True if any value is a join certificate of the edge set."""
    network = edge_set.network
    return is_certificate(network.nodes, turned_edges(network.edges, edge_set.names), value)


def accepts_path(path, value):
    """True if any value is a join certificate of the edges of the path."""
    return accepts_join(path.edge_set, value)
