"""Sets of edges of a network. An edge set never changes."""

from lendroads.checks import check_known_edge, check_known_node
from lendroads.errors import OtherNetwork
from lendroads.rules import cut_edges, names_of, odd_nodes, sum_of_lengths
from lendroads.walks import split_edges


class EdgeSet:
    """Some edges of a network."""

    def __init__(self, network, *names):
        for name in names:
            check_known_edge(network, name)
        self._network = network
        self._names = tuple(sorted(set(names)))
        self._edges = tuple([network[name] for name in self._names])

    @staticmethod
    def listed(network, names):
        """The edge set of a list of names."""
        return EdgeSet(network, *names)

    @staticmethod
    def cut(network, *nodes):
        """The edges with exactly one end among these nodes."""
        for node in nodes:
            check_known_node(network, node)
        return EdgeSet.listed(network, names_of(cut_edges(network.edges, nodes)))

    @property
    def network(self):
        """The network."""
        return self._network

    @property
    def names(self):
        """The names of the edges, a tuple, ascending."""
        return self._names

    @property
    def odd(self):
        """The nodes at which an odd number of the edges end, a tuple, ascending."""
        return odd_nodes(self._edges)

    @property
    def length(self):
        """The length of all the edges together."""
        return sum_of_lengths(self._edges)

    def __len__(self):
        return len(self._names)

    def __contains__(self, value):
        return value in self._names

    def __eq__(self, other):
        return isinstance(other, EdgeSet) and self._network == other._network and self._names == other._names

    def __xor__(self, other):
        _check_same_network(self, other)
        return EdgeSet.listed(self._network, [*_left_out(self, other), *_left_out(other, self)])

    def __or__(self, other):
        _check_same_network(self, other)
        return EdgeSet.listed(self._network, [*self._names, *other._names])

    def __and__(self, other):
        _check_same_network(self, other)
        return EdgeSet.listed(self._network, [name for name in self._names if name in other._names])

    def __sub__(self, other):
        _check_same_network(self, other)
        return EdgeSet.listed(self._network, _left_out(self, other))

    def is_within(self, other):
        """True if all edges are in another edge set."""
        _check_same_network(self, other)
        return not _left_out(self, other)

    def is_path(self):
        """True if the edges, in some order, are a path with at least one edge."""
        return len(self.odd) == 2 and len(split_edges(self._edges)) == 1

    def is_cycle(self):
        """True if the edges are a cycle."""
        return not self.odd and len(split_edges(self._edges)) == 1

    def split(self):
        """A list of paths, which pair the odd nodes, and cycles, without common edges, that are together this set."""
        return [EdgeSet.listed(self._network, names_of(edges)) for edges in split_edges(self._edges)]


def _check_same_network(one, other):
    """Raises OtherNetwork if the networks of two edge sets are not equal."""
    if one.network != other.network:
        raise OtherNetwork()


def _left_out(one, other):
    """The list of the names of one edge set that are not in the other one."""
    return [name for name in one.names if name not in other.names]
