"""Parts, paths and cycles of plain edges (name, u, v, length)."""

from lendroads.rules import edges_by_node, odd_nodes, other_end


def connected_parts(nodes, edges):
    """The list of the parts of the nodes, ascending tuples, in the order of their least nodes."""
    steps = edges_by_node(edges)
    placed = {}
    parts = []
    for start in sorted(nodes):
        if start not in placed:
            part = nodes_around(steps, start, ())
            for node in part:
                placed[node] = True
            parts.append(tuple(sorted(part)))
    return parts


def nodes_around(steps, start, barred):
    """A dict whose keys are the node and all nodes that can be reached from it past no barred node."""
    found = {start: True}
    waiting = [start]
    while waiting:
        node = waiting.pop()
        for edge in steps.get(node, ()):
            other = other_end(edge, node)
            if other not in found and other not in barred:
                found[other] = True
                waiting.append(other)
    return found


def split_edges(edges):
    """The edges as lists, each a path or a cycle: half as many paths as there are odd nodes."""
    steps = edges_by_node(edges)
    pieces = []
    # A walk ends at an odd node only, if there is one: so paths come first, one from each odd node that is left.
    for start in odd_nodes(edges):
        if len(steps[start]) & 1:
            pieces.append(_walk(steps, start, pieces))
    for start in sorted(steps):
        _walk(steps, start, pieces)
    return pieces


def _walk(steps, start, cycles):
    """Walks on until no edge is left, takes these edges from the steps, and returns the path from start to end.

    What is walked in a circle is not in the path, but added to the cycles.
    """
    nodes = [start]
    path = []
    while steps[nodes[-1]]:
        edge = steps[nodes[-1]].pop()
        node = other_end(edge, nodes[-1])
        steps[node].remove(edge)
        path.append(edge)
        if node in nodes:
            at = nodes.index(node)
            cycles.append(path[at:])
            nodes, path = nodes[:at + 1], path[:at]
        else:
            nodes.append(node)
    return path


def find_paths(edges, u, v, most):
    """The list of the paths from u to v, each a list of edges; no more than this many."""
    if u == v:
        return [[]]
    search = PathSearch(edges, v, most)
    search.go_on([u], [])
    return search.found


def find_cycles(edges, most):
    """The list of the cycles, each a list of edges; no more than this many."""
    found = []
    for at, edge in enumerate(edges):
        # The cycles in which this edge is the first one.
        for path in find_paths(edges[at + 1:], edge[1], edge[2], most - len(found)):
            found.append([edge, *path])
        if len(found) == most:
            break
    return found


class PathSearch:
    """Finds paths to a goal. It takes no step that does not lead there, so it is quick if few paths are wanted."""

    def __init__(self, edges, goal, most):
        self._steps = edges_by_node(edges)
        self._goal = goal
        self._most = most
        self.found = []

    def go_on(self, nodes, path):
        """Finds the paths that begin with this one, which passes these nodes."""
        ahead = nodes_around(self._steps, self._goal, nodes)
        for edge in self._steps.get(nodes[-1], ()):
            if len(self.found) == self._most:
                break
            node = other_end(edge, nodes[-1])
            if node == self._goal:
                self.found.append([*path, edge])
            elif node in ahead:
                self.go_on([*nodes, node], [*path, edge])
