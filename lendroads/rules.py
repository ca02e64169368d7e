"""What names, lengths and edges are, and what sets of edges have in common."""

from lendroads.limits import MAX_LENGTH

LONGEST_NAME = 8


def is_whole(value):
    """True if any value is an integer that is not a bool."""
    return isinstance(value, int) and not isinstance(value, bool)


def is_name(value):
    """True if any value is a string of 1 to 8 letters from a to z."""
    if not isinstance(value, str) or len(value) > LONGEST_NAME:
        return False
    return value.isascii() and value.isalpha() and value.islower()


def is_length(value):
    """True if any value is an integer that an edge may have as its length."""
    return is_whole(value) and -MAX_LENGTH <= value <= MAX_LENGTH


def edge_in_order(edge):
    """The tuple of an edge whose ends may stand in any order."""
    name, u, v, length = edge
    return name, min(u, v), max(u, v), length


def names_of(edges):
    """The names of the edges, a tuple, in their order."""
    return tuple([edge[0] for edge in edges])


def sum_of_lengths(edges):
    """The length of all the edges together."""
    return sum([edge[3] for edge in edges])


def other_end(edge, node):
    """The end of an edge that is not this one of its ends."""
    return edge[2] if edge[1] == node else edge[1]


def negative_edges(edges):
    """The list of the edges with a negative length."""
    return [edge for edge in edges if edge[3] < 0]


def turned_edges(edges, names):
    """The list of all the edges, those with these names turned."""
    return [(name, u, v, -length if name in names else length) for name, u, v, length in edges]


def edges_without(edges, name):
    """The list of the other edges."""
    return [edge for edge in edges if edge[0] != name]


def odd_nodes(edges):
    """The nodes at which an odd number of the edges end, a tuple, ascending."""
    counts = {}
    for edge in edges:
        for node in edge[1:3]:
            counts[node] = counts.get(node, 0) + 1
    return tuple(sorted([node for node in counts if counts[node] & 1]))


def cut_edges(edges, nodes):
    """The list of the edges with exactly one end among the nodes."""
    return [edge for edge in edges if (edge[1] in nodes) != (edge[2] in nodes)]


def edges_by_node(edges):
    """A dict from each node at which an edge ends to the list of these edges, in their order."""
    found = {}
    for edge in edges:
        for node in edge[1:3]:
            if node not in found:
                found[node] = []
            found[node].append(edge)
    return found
