"""Least joins for up to four nodes, and the paths that they consist of."""

from lendroads.calm import calm_joins
from lendroads.checks import check_known_node
from lendroads.edgesets import EdgeSet
from lendroads.errors import InvalidNodes, TooMany
from lendroads.limits import MAX_JOIN
from lendroads.pairing import joins_of
from lendroads.paths import path_within


def join_length(network, *nodes):
    """The length of a least join for these nodes, or None if there is no join."""
    _check_ends(network, nodes)
    return joins_of(network.edges).least_length(nodes)


def least_join(network, *nodes):
    """A least join for these nodes, an edge set, or None if there is no join."""
    _check_ends(network, nodes)
    return _join_found(network, joins_of(network.edges), nodes)


def pairs(network, *nodes):
    """Paths without common edges that pair the nodes and are as long as a least join together, or None."""
    _check_ends(network, nodes)
    join = _join_found(network, calm_joins(network), nodes)
    if join is None:
        return None
    # The cycles in a least join of a calm network have the length 0, so they can be left out.
    return [path_within(piece, piece.odd[0], piece.odd[1]) for piece in join.split() if piece.odd]


def _check_ends(network, nodes):
    """Raises the errors of nodes that are to be joined."""
    for node in nodes:
        check_known_node(network, node)
    if len(set(nodes)) < len(nodes):
        raise InvalidNodes(nodes)
    if len(nodes) > MAX_JOIN:
        raise TooMany(MAX_JOIN)


def _join_found(network, least_joins, nodes):
    """The least join for these nodes that is found, an edge set, or None."""
    if least_joins.least_length(nodes) is None:
        return None
    return EdgeSet.listed(network, least_joins.least_names(nodes))
