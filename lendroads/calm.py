"""Calm networks and least joins, and the certificates that show them."""

from lendroads.certificates import is_certificate, nested_certificate
from lendroads.edgesets import EdgeSet
from lendroads.errors import NotCalm, NotLeast, TooMany
from lendroads.pairing import LeastJoins
from lendroads.limits import MAX_JOIN
from lendroads.rules import names_of, negative_edges


def is_calm(network):
    """True if no cycle has a negative length."""
    return _least_joins(network).least_length(()) == 0


def negative_cycle(network):
    """A cycle with a negative length, or None if the network is calm."""
    join = EdgeSet.listed(network, _least_joins(network).least_names(()))
    for cycle in join.split():
        if cycle.length < 0:
            return cycle
    return None


def calm_certificate(network):
    """A calm certificate; raises NotCalm if the network is not calm."""
    least_joins = _least_joins(network)
    if least_joins.least_length(()) < 0:
        raise NotCalm(negative_cycle(network))
    return nested_certificate(network.nodes, network.edges, least_joins)


def accepts_calm(network, value):
    """True if any value is a calm certificate of the network."""
    return is_certificate(network.nodes, network.edges, value)


def join_certificate(edge_set):
    """A join certificate; raises NotLeast if there is a better join for the same nodes."""
    if len(edge_set.odd) > MAX_JOIN:
        raise TooMany(MAX_JOIN)
    network = edge_set.network
    edges = _turned_edges(edge_set)
    negative = EdgeSet.listed(network, names_of(negative_edges(network.edges)))
    # The turned edges with the length 0 are counted, too: then few nodes are odd.
    least_joins = LeastJoins(edges, (negative ^ edge_set).names)
    if least_joins.least_length(()) < 0:
        raise NotLeast(edge_set ^ EdgeSet.listed(network, least_joins.least_names(())))
    return nested_certificate(network.nodes, edges, least_joins)


def accepts_join(edge_set, value):
    """True if any value is a join certificate of the edge set."""
    return is_certificate(edge_set.network.nodes, _turned_edges(edge_set), value)


def accepts_path(path, value):
    """True if any value is a join certificate of the edges of the path."""
    return accepts_join(path.edge_set, value)


def _least_joins(network):
    """What finds the least joins of a network."""
    return LeastJoins(network.edges, names_of(negative_edges(network.edges)))


def _turned_edges(edge_set):
    """The list of the edges of the network, with those of the edge set turned."""
    return [(name, u, v, -length if name in edge_set else length) for name, u, v, length in edge_set.network.edges]
