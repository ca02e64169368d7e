"""The checks of what is given to networks: they raise the errors of the interface."""

from lendroads.errors import InvalidEdge, InvalidLength, InvalidNode, TooMany, UnknownEdge, UnknownNode
from lendroads.limits import MAX_EDGES, MAX_NODES, MAX_ODD
from lendroads.rules import edge_in_order, is_length, is_name, negative_edges, odd_nodes


def checked_nodes(nodes):
    """The nodes of a network as a tuple, ascending."""
    if not isinstance(nodes, (list, tuple)):
        raise InvalidNode(nodes)
    found = []
    for node in nodes:
        if not is_name(node) or node in found or len(found) == MAX_NODES:
            raise InvalidNode(node)
        found.append(node)
    if not found:
        raise InvalidNode(())
    return tuple(sorted(found))


def checked_edges(nodes, edges):
    """The edges of a network with these nodes as a tuple, ascending, with their ends in order."""
    if not isinstance(edges, (list, tuple)):
        raise InvalidEdge(edges)
    found = {}
    for edge in edges:
        if not _is_edge(nodes, edge) or edge[0] in found:
            raise InvalidEdge(edge)
        found[edge[0]] = edge_in_order(edge)
    if len(found) > MAX_EDGES:
        raise TooMany(MAX_EDGES)
    if len(odd_nodes(negative_edges(list(found.values())))) > MAX_ODD:
        raise TooMany(MAX_ODD)
    return tuple([found[name] for name in sorted(found)])


def _is_edge(nodes, value):
    """True if any value is an edge between these nodes."""
    if not isinstance(value, tuple) or len(value) != 4:
        return False
    name, u, v, length = value
    return is_name(name) and u in nodes and v in nodes and u != v and is_length(length)


def check_lengths(lengths):
    """Raises InvalidLength for the first value that is not the length of an edge."""
    for length in lengths:
        if not is_length(length):
            raise InvalidLength(length)


def check_known_node(network, value):
    """Raises UnknownNode for any value that is not a node of the network."""
    if value not in network.nodes:
        raise UnknownNode(value)


def check_known_edge(network, value):
    """Raises UnknownEdge for any value that is not the name of an edge of the network."""
    if value not in network:
        raise UnknownEdge(value)


def check_different_nodes(network, values):
    """Raises UnknownNode for the first value that is not a node or occurred before."""
    for index, value in enumerate(values):
        if value not in network.nodes or value in values[:index]:
            raise UnknownNode(value)


def check_different_edges(network, values):
    """Raises UnknownEdge for the first value that is not the name of an edge or occurred before."""
    for index, value in enumerate(values):
        if value not in network or value in values[:index]:
            raise UnknownEdge(value)
