"""Least joins of plain edges (name, u, v, length), found by absolute lengths."""

from heapq import heappop, heappush

from lendroads.rules import edges_by_node, edges_without, names_of, negative_edges, odd_nodes, other_end


class LeastJoins:
    """Finds least joins for edges of which some are counted among the negative ones.

    These must be all edges with a negative length, and may be some with the length 0.
    """

    def __init__(self, edges, counted):
        self._edge_of = {edge[0]: edge for edge in edges}
        self._steps = edges_by_node(edges)
        self._counted = list(counted)
        self._odd = odd_nodes([self._edge_of[name] for name in counted])
        self._base = sum([self._edge_of[name][3] for name in counted])
        self._routes = {}
        # The best pairings that are known, by the nodes that they pair.
        self._best = {(): (0, None)}

    def least_length(self, ends):
        """The length of a least join for these nodes (one that is given twice is none), or None if there is none."""
        best = self._best_pairing(self._points(ends))
        return None if best is None else best[0] + self._base

    def least_names(self, ends):
        """The list of the names of the edges of a least join for these nodes; there must be one."""
        taken = {name: True for name in self._counted}
        points = self._points(ends)
        while points:
            partner = self._best_pairing(points)[1]
            for name in self._names_between(points[0], partner):
                if name in taken:
                    del taken[name]
                else:
                    taken[name] = True
            points = _without(points, points[0], partner)
        return sorted(taken)

    def good_end(self, part):
        """A node of a part such that least joins for it and others are found quickly."""
        odd = [node for node in part if node in self._odd]
        return odd[0] if odd else part[0]

    def _points(self, ends):
        """The tuple of the nodes that are to be paired for a least join for these nodes."""
        points = list(self._odd)
        for node in ends:
            if node in points:
                points.remove(node)
            else:
                # At the front, so that the pairings of the others serve for all joins.
                points.insert(0, node)
        return tuple(points)

    def _best_pairing(self, points):
        """The tuple (least sum of absolute lengths, partner of the first node) for these nodes, or None."""
        if points not in self._best:
            self._best[points] = self._searched_pairing(points)
        return self._best[points]

    def _searched_pairing(self, points):
        """The same, looked for among all partners of the first node."""
        best = None
        far, _ = self._routes_from(points[0])
        for partner in points[1:]:
            if partner in far:
                rest = self._best_pairing(_without(points, points[0], partner))
                if rest is not None and (best is None or far[partner] + rest[0] < best[0]):
                    best = (far[partner] + rest[0], partner)
        return best

    def _routes_from(self, start):
        """The routes from one node, see routes_from."""
        if start not in self._routes:
            self._routes[start] = routes_from(self._steps, start)
        return self._routes[start]

    def _names_between(self, start, node):
        """The names of the edges of a route with the least sum of absolute lengths."""
        _, last = self._routes_from(start)
        names = []
        while node != start:
            names.append(last[node])
            node = other_end(self._edge_of[last[node]], node)
        return names


def joins_of(edges):
    """What finds the least joins of these edges."""
    return LeastJoins(edges, names_of(negative_edges(edges)))


def joins_without(edges, name):
    """What finds the least joins of these edges that do not contain this one of them."""
    return joins_of(edges_without(edges, name))


def routes_from(steps, start):
    """A tuple of two dicts: the least sums of absolute lengths from one node, and the last edges on the way."""
    far = {}
    last = {}
    queue = [(0, start, "")]
    while queue:
        total, node, name = heappop(queue)
        if node not in far:
            far[node] = total
            last[node] = name
            for edge in steps.get(node, ()):
                heappush(queue, (total + abs(edge[3]), other_end(edge, node), edge[0]))
    return far, last


def _without(points, one, other):
    """The tuple of the other points."""
    return tuple([point for point in points if point not in (one, other)])
