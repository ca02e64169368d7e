"""Questions about many distances in a calm network at once."""

from lendroads.calm import calm_joins
from lendroads.distances import distances
from lendroads.texts import number_text


def within(network, u, limit):
    """The list of tuples (distance, node) up to a limit (None: no limit) from u, ascending."""
    far = distances(network, u)
    rows = [(far[node], node) for node in far if far[node] is not None]
    return sorted([row for row in rows if limit is None or row[0] <= limit])


def nearest(network, u, *targets):
    """The target with the least distance from u, of several the one with the least name; None if there is none."""
    least_joins = calm_joins(network, u, *targets)
    rows = [(least_joins.least_length((u, node)), node) for node in targets]
    connected = [row for row in rows if row[0] is not None]
    return min(connected)[1] if connected else None


def farthest(network):
    """The tuple (distance, u, v) of the greatest distance, of several the one with the least nodes, or None."""
    far = _all_distances(network)
    rows = [(-far[u][v], u, v) for u in far for v in far[u] if u < v]
    if not rows:
        return None
    total, u, v = min(rows)
    return -total, u, v


def center(network):
    """The node whose greatest distance in its part is least, of several the least one."""
    far = _all_distances(network)
    return min([(max(list(far[u].values())), u) for u in far])[1]


def table(network, *nodes):
    """The distances of these nodes, or of all if none is given, in columns under their names."""
    least_joins = calm_joins(network, *nodes)
    shown = nodes or network.nodes
    columns = [_padded_right(["", *shown])]
    for v in shown:
        entries = [number_text(least_joins.least_length((v, u))) for u in shown]
        columns.append(_padded_left([v, *entries]))
    return "\n".join([" ".join(row) for row in zip(*columns)])


def _all_distances(network):
    """A dict from each node, ascending, to the dict of the distances of the nodes that are connected with it."""
    least_joins = calm_joins(network)
    found = {}
    for part in network.parts():
        for u in part:
            found[u] = {v: least_joins.least_length((u, v)) for v in part}
    return {u: found[u] for u in network.nodes}


def _padded_right(words):
    """The list of the words, each as wide as the longest one, with the spaces behind them."""
    width = max([len(word) for word in words])
    return [word.ljust(width) for word in words]


def _padded_left(words):
    """The same with the spaces in front of the words."""
    width = max([len(word) for word in words])
    return [word.rjust(width) for word in words]
