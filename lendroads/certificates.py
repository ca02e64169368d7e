"""Calm certificates of plain nodes and edges (name, u, v, length)."""

from lendroads.rules import cut_edges, is_whole, negative_edges
from lendroads.walks import connected_parts


def nested_certificate(nodes, edges, least_joins):
    """A certificate whose sets are different, and disjoint or nested; there must be no negative cycle."""
    distances = {}
    roots = []
    for part in connected_parts(nodes, edges):
        root = least_joins.good_end(part)
        roots.append(root)
        for node in part:
            distances[node] = least_joins.least_length((root, node))
    return _groups_by_height(edges, distances, roots)


def _groups_by_height(edges, distances, roots):
    """The list of tuples (group, range of its heights) of the groups without roots, which grow with the height."""
    group_of = {}
    born = {}
    found = []
    for height, _, u, v in _heights(edges, distances):
        if u == v:
            group_of[u] = (u,)
            born[(u,)] = height
        elif group_of[u] != group_of[v]:
            for group in (group_of[u], group_of[v]):
                if height > born[group] and not any([root in group for root in roots]):
                    found.append((group, height - born[group]))
            merged = tuple(sorted([*group_of[u], *group_of[v]]))
            born[merged] = height
            for node in merged:
                group_of[node] = merged
    return found


def _heights(edges, distances):
    """The list of tuples (height, 1, u, v), ascending: there the edge between u and v appears; (.., 0, u, u): u."""
    # At one height the nodes come first, since edges join nodes that are there.
    nodes = [(2 * distances[node], 0, node, node) for node in distances]
    between = [(distances[u] + distances[v] + abs(length), 1, u, v) for _, u, v, length in edges]
    return sorted([*nodes, *between])


def is_certificate(nodes, edges, value):
    """True if any value is a calm certificate of these nodes and edges."""
    if not isinstance(value, list) or not all([_is_entry(nodes, entry) for entry in value]):
        return False
    sums = {edge[0]: 0 for edge in edges}
    for members, amount in value:
        crossing = cut_edges(edges, members)
        if len(negative_edges(crossing)) > 1:
            return False
        for edge in crossing:
            sums[edge[0]] = sums[edge[0]] + amount
    return all([_is_enough(edge[3], sums[edge[0]]) for edge in edges])


def _is_entry(nodes, value):
    """True if any value is a tuple (some of the nodes, amount) as in a certificate."""
    if not isinstance(value, tuple) or len(value) != 2:
        return False
    members, amount = value
    if not isinstance(members, tuple) or not members or not is_whole(amount) or amount < 1:
        return False
    return all([node in nodes for node in members]) and members == tuple(sorted(set(members)))


def _is_enough(length, total):
    """True if the amounts at an edge with this length may have this sum."""
    return total == -2 * length if length < 0 else total <= 2 * length
