"""What names, lengths and edges are, and which nodes are odd."""

from lendroads.limits import MAX_LENGTH

LONGEST_NAME = 8


def is_whole(value):
    """True if any value is an integer that is not a bool."""
    return isinstance(value, int) and not isinstance(value, bool)


def is_name(value):
    """True if any value is a string of 1 to 8 letters from a to z."""
    if not isinstance(value, str) or len(value) > LONGEST_NAME:
        return False
    return value.isascii() and value.isalpha() and value.islower()


def is_length(value):
    """True if any value is an integer that an edge may have as its length."""
    return is_whole(value) and -MAX_LENGTH <= value <= MAX_LENGTH


def edge_in_order(edge):
    """The tuple of an edge whose ends may stand in any order."""
    name, u, v, length = edge
    return name, min(u, v), max(u, v), length


def negative_edges(edges):
    """The list of the edges with a negative length."""
    return [edge for edge in edges if edge[3] < 0]


def odd_nodes(edges):
    """The nodes at which an odd number of the edges end, a tuple, ascending."""
    counts = {}
    for edge in edges:
        for node in edge[1:3]:
            counts[node] = counts.get(node, 0) + 1
    return tuple(sorted([node for node in counts if counts[node] & 1]))
