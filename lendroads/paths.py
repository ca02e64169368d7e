"""Paths in a network, and lists of all paths and cycles. A path never changes."""

from lendroads.checks import check_known_node
from lendroads.edgesets import EdgeSet
from lendroads.errors import NotJoined, NotPath, OtherNetwork, OutOfRange, TooMany
from lendroads.rules import is_whole, names_of, other_end, sum_of_lengths
from lendroads.walks import find_cycles, find_paths


class Path:
    """A sequence of edges that leads from one node to another one and visits no node twice."""

    def __init__(self, network, start, *edges):
        check_known_node(network, start)
        self._network = network
        self._names = edges
        # An unknown name raises UnknownEdge here, before any other edge is followed.
        self._nodes = _nodes_along(start, [network[name] for name in edges])

    @staticmethod
    def along(network, start, edges):
        """The path of a list of names of edges."""
        return Path(network, start, *edges)

    @property
    def network(self):
        """The network."""
        return self._network

    @property
    def start(self):
        """The node at which the path begins."""
        return self._nodes[0]

    @property
    def end(self):
        """The node at which the path ends."""
        return self._nodes[-1]

    @property
    def nodes(self):
        """The nodes that the path visits, a tuple, in their order."""
        return self._nodes

    @property
    def edges(self):
        """The names of the edges, a tuple, in their order."""
        return self._names

    @property
    def length(self):
        """The length of all edges together."""
        return sum_of_lengths([self._network[name] for name in self._names])

    @property
    def edge_set(self):
        """The edges as a set."""
        return EdgeSet.listed(self._network, self._names)

    @property
    def rank(self):
        """What paths are put in order by: the length, the number of edges, the start, the edges."""
        return self.length, len(self._names), self.start, self._names

    def __len__(self):
        return len(self._names)

    def __contains__(self, value):
        return value in self._names

    def __getitem__(self, index):
        if not is_whole(index) or not 0 <= index < len(self._nodes):
            raise OutOfRange(index)
        return self._nodes[index]

    def __iter__(self):
        raise TypeError("a path is not iterated over, but its nodes and edges are")

    def __eq__(self, other):
        return (isinstance(other, Path) and self._network == other._network and self._nodes == other._nodes
                and self._names == other._names)

    def __add__(self, other):
        if self._network != other._network:
            raise OtherNetwork()
        if self._nodes[-1] != other._nodes[0]:
            raise NotJoined()
        return Path.along(self._network, self._nodes[0], [*self._names, *other._names])

    def __neg__(self):
        return Path.along(self._network, self._nodes[-1], self._names[::-1])


def _nodes_along(start, edges):
    """The tuple of the nodes that a path visits; raises NotPath if the edges are not a path from the start."""
    nodes = [start]
    for index, edge in enumerate(edges):
        node = other_end(edge, nodes[-1])
        if nodes[-1] not in edge[1:3] or node in nodes:
            raise NotPath(index)
        nodes.append(node)
    return tuple(nodes)


def path_within(edge_set, u, v):
    """Any path from u to v in an edge set in which there is one."""
    network = edge_set.network
    edges = [network[name] for name in edge_set.names]
    return Path.along(network, u, names_of(find_paths(edges, u, v, 1)[0]))


def all_paths(network, u, v, *, most=1000):
    """Yields all paths from u to v, in ascending order of their ranks."""
    check_known_node(network, u)
    check_known_node(network, v)
    found = find_paths(network.edges, u, v, most + 1)
    if len(found) > most:
        raise TooMany(most)
    ranks = sorted([(sum_of_lengths(path), len(path), names_of(path)) for path in found])
    for _, _, names in ranks:
        yield Path.along(network, u, names)


def all_cycles(network, *, most=1000):
    """Yields all cycles as edge sets, in ascending order of their lengths, numbers of edges and names."""
    found = find_cycles(network.edges, most + 1)
    if len(found) > most:
        raise TooMany(most)
    # The edges of a network stand in the order of their names, but those of a cycle that is found need not.
    ranks = sorted([(sum_of_lengths(cycle), len(cycle), names_of(sorted(cycle))) for cycle in found])
    for _, _, names in ranks:
        yield EdgeSet.listed(network, names)
