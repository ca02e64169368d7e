"""Networks: nodes, and edges whose lengths may be negative. A network never changes."""

from lendroads.checks import (
    check_different_edges, check_different_nodes, check_known_edge, check_known_node, check_lengths, checked_edges,
    checked_nodes)
from lendroads.errors import InvalidLength, TooMany
from lendroads.rules import names_of, sum_of_lengths
from lendroads.texts import network_text, read_parts
from lendroads.walks import connected_parts

LETTERS = "abcdefghijklmnopqrstuvwxyz"


class Network:
    """An undirected network with 1 to 40 nodes and at most 100 edges."""

    MAX_NODES = 40
    MAX_EDGES = 100
    MAX_ODD = 10

    def __init__(self, nodes, edges=()):
        self._nodes = checked_nodes(nodes)
        self._edges = checked_edges(self._nodes, edges)
        self._by_name = {edge[0]: edge for edge in self._edges}

    @classmethod
    def ring(cls, *lengths):
        """The network of edges with these lengths, each beginning where the last one ended, back to the first."""
        if len(lengths) < 2:
            raise InvalidLength(lengths)
        check_lengths(lengths)
        if len(lengths) > len(LETTERS):
            raise TooMany(len(LETTERS))
        nodes = LETTERS[:len(lengths)]
        return cls(list(nodes), _edges_in_row(nodes, nodes[1:] + nodes[0], lengths))

    @classmethod
    def chain(cls, *lengths):
        """The network of edges with these lengths, each beginning where the last one ended."""
        check_lengths(lengths)
        if len(lengths) >= len(LETTERS):
            raise TooMany(len(LETTERS))
        nodes = LETTERS[:len(lengths) + 1]
        return cls(list(nodes), _edges_in_row(nodes[:-1], nodes[1:], lengths))

    @classmethod
    def read(cls, text):
        """The network with this text."""
        nodes, edges = read_parts(text)
        return cls(nodes, edges)

    @property
    def nodes(self):
        """The nodes, a tuple, ascending."""
        return self._nodes

    @property
    def edges(self):
        """The edges, a tuple, in ascending order of their names."""
        return self._edges

    @property
    def names(self):
        """The names of the edges, a tuple, ascending."""
        return names_of(self._edges)

    @property
    def length(self):
        """The length of all edges together."""
        return sum_of_lengths(self._edges)

    @property
    def text(self):
        """The text of the network."""
        return network_text(self._nodes, self._edges)

    def __len__(self):
        return len(self._edges)

    def __contains__(self, value):
        return isinstance(value, str) and value in self._by_name

    def __getitem__(self, name):
        check_known_edge(self, name)
        return self._by_name[name]

    def __iter__(self):
        raise TypeError("a network is not iterated over, but its nodes and edges are")

    def __eq__(self, other):
        return isinstance(other, Network) and self._nodes == other._nodes and self._edges == other._edges

    def edges_at(self, node):
        """Yields the edges that end at a node, in their order."""
        check_known_node(self, node)
        for edge in self._edges:
            if node in edge[1:3]:
                yield edge

    def parts(self):
        """The list of the parts, ascending tuples, in the order of their least nodes."""
        return connected_parts(self._nodes, self._edges)

    def with_nodes(self, *names):
        """The network with these nodes, too."""
        return Network([*self._nodes, *names], self._edges)

    def with_edges(self, *edges):
        """The network with these edges, too."""
        return Network(self._nodes, [*self._edges, *edges])

    def without_nodes(self, *names):
        """The network without these nodes and their edges."""
        check_different_nodes(self, names)
        nodes = [node for node in self._nodes if node not in names]
        return Network(nodes, [edge for edge in self._edges if edge[1] in nodes and edge[2] in nodes])

    def without_edges(self, *names):
        """The network without these edges."""
        check_different_edges(self, names)
        return Network(self._nodes, [edge for edge in self._edges if edge[0] not in names])

    def with_lengths(self, **lengths):
        """The network in which the edges with these names have these lengths."""
        return self.with_listed_lengths(lengths)

    def with_listed_lengths(self, lengths):
        """The same for a dict, in which an edge called self can stand, too."""
        for name in lengths:
            check_known_edge(self, name)
        check_lengths(list(lengths.values()))
        edges = [(name, u, v, lengths.get(name, length)) for name, u, v, length in self._edges]
        return Network(self._nodes, edges)


def _edges_in_row(starts, ends, lengths):
    """The list of the edges between these letters, each named after its start."""
    return [("e" + u, u, v, length) for u, v, length in zip(starts, ends, lengths)]
