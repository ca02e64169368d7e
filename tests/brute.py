"""Slow and plain ways to the same answers, and networks to try them on."""

import itertools
import random

LETTERS = "abcdefghijklmnopqrstuvwxyz"


def names(count):
    """Different names: a, b, .. z, aa, ab, .."""
    return list(itertools.islice((first + second for first in ["", *LETTERS] for second in LETTERS), count))


def subsets(items):
    """All tuples of some of the items, in their order."""
    return [some for count in range(len(items) + 1) for some in itertools.combinations(items, count)]


def length_of(edges):
    return sum(edge[3] for edge in edges)


def names_in(edges):
    return tuple(edge[0] for edge in edges)


def odd_of(edges):
    """The nodes at which an odd number of the edges end, a sorted list."""
    ends = [node for edge in edges for node in edge[1:3]]
    return sorted({node for node in ends if ends.count(node) % 2})


def least_lengths(edges):
    """The least length of all joins, by their odd nodes (a tuple)."""
    found = {}
    for some in subsets(edges):
        odd = tuple(odd_of(some))
        found[odd] = min(found.get(odd, 10 ** 9), length_of(some))
    return found


def is_one_piece(edges):
    """True if one can get from each of the edges to each other one along them."""
    reached = list(edges[:1])
    for edge in reached:
        reached.extend(other for other in edges if other not in reached and set(other[1:3]) & set(edge[1:3]))
    return len(reached) == len(edges)


def is_cycle(edges):
    ends = [node for edge in edges for node in edge[1:3]]
    return len(edges) > 1 and all(ends.count(node) == 2 for node in ends) and is_one_piece(edges)


def is_path(edges):
    ends = [node for edge in edges for node in edge[1:3]]
    twice = all(ends.count(node) <= 2 for node in ends)
    return len(edges) > 0 and twice and len(odd_of(edges)) == 2 and is_one_piece(edges)


def cycles_of(edges):
    """All cycles, tuples of edges in their order."""
    return [some for some in subsets(edges) if is_cycle(some)]


def paths_of(edges, u, v):
    """All paths from u to v, lists of edges."""
    found = []
    waiting = [([], [u])]
    for path, nodes in waiting:
        if nodes[-1] == v:
            found.append(path)
            continue
        for edge in edges:
            if nodes[-1] in edge[1:3]:
                node = edge[2] if edge[1] == nodes[-1] else edge[1]
                if node not in nodes:
                    waiting.append(([*path, edge], [*nodes, node]))
    return found


def shortest_paths(edges, u, v):
    """All shortest paths from u to v, lists of edges."""
    found = paths_of(edges, u, v)
    least = min(map(length_of, found), default=None)
    return [path for path in found if length_of(path) == least]


def distance(edges, u, v):
    """The least length of all paths, or None."""
    return min(map(length_of, paths_of(edges, u, v)), default=None)


def parts_of(nodes, edges):
    """The parts as sorted tuples, in the order of their least nodes."""
    part_of = {node: {node} for node in nodes}
    for _, u, v, _ in edges:
        joined = part_of[u] | part_of[v]
        for node in joined:
            part_of[node] = joined
    return sorted({tuple(sorted(part)) for part in part_of.values()})


def turned(edges, turned_names):
    return [(name, u, v, -length if name in turned_names else length) for name, u, v, length in edges]


def is_calm(edges):
    return all(length_of(cycle) >= 0 for cycle in cycles_of(edges))


def is_certificate(nodes, edges, value):
    """The rules of [13], word by word, for a value of the right kinds."""
    for members, amount in value:
        if not members or list(members) != sorted(set(members)) or not set(members) <= set(nodes) or amount < 1:
            return False
    sums = {edge[0]: 0 for edge in edges}
    for members, amount in value:
        cut = [edge for edge in edges if len({edge[1], edge[2]} & set(members)) == 1]
        if len([edge for edge in cut if edge[3] < 0]) > 1:
            return False
        for edge in cut:
            sums[edge[0]] += amount
    return all(sums[name] == -2 * length if length < 0 else sums[name] <= 2 * length for name, _, _, length in edges)


def is_nested(value):
    """True if the sets of a certificate are different, and any two disjoint or one within the other."""
    sets = [frozenset(members) for members, _ in value]
    pairs = itertools.combinations(sets, 2)
    return len(set(sets)) == len(sets) and all(not one & two or one < two or two < one for one, two in pairs)


def random_edges(chance, nodes, count, lengths):
    """A list of edges with different names between two different nodes each."""
    return [(name, *chance.sample(nodes, 2), chance.choice(lengths)) for name in names(count)]


def small_networks(count, most_edges, lengths=(-3, -2, -1, 0, 0, 1, 1, 2, 3, 4)):
    """Tuples (nodes, edges) of small networks, some with parallel edges and several parts."""
    chance = random.Random(count)
    for _ in range(count):
        nodes = names(chance.randint(2, 6))
        yield nodes, random_edges(chance, nodes, chance.randint(0, most_edges), lengths)


def small_calm_networks(count, most_edges):
    """The same, but only the calm ones among them, and some whose negative edges have many odd nodes."""
    networks = [*small_networks(count, most_edges), *(many_odd_nodes(seed) for seed in range(count // 10))]
    return [(nodes, edges) for nodes, edges in networks if is_calm(edges)]


def many_odd_nodes(seed):
    """A tuple (nodes, edges) with 12 edges, whose negative ones have 10 odd nodes."""
    chance = random.Random(seed)
    nodes = names(11)
    matching = [("n" + nodes[at], nodes[at], nodes[at + 1], -chance.randint(1, 2)) for at in range(0, 10, 2)]
    more = [("p" + name, *chance.sample(nodes, 2), chance.randint(0, 3)) for name in names(7)]
    return nodes, matching + more


def has_few_odd_nodes(edges):
    """True if a network may have these edges, as to the odd nodes of the negative ones."""
    return len(odd_of([edge for edge in edges if edge[3] < 0])) <= 10


def pairings(points):
    """All ways to put the points into pairs."""
    if not points:
        yield []
    for at in range(1, len(points)):
        for rest in pairings(points[1:at] + points[at + 1:]):
            yield [(points[0], points[at]), *rest]


def shortest_ways(nodes, edges):
    """By two nodes: the tuple (sum, names of edges) of a way with the least sum of absolute lengths."""
    far = {(u, v): (0, ()) if u == v else (10 ** 9, ()) for u in nodes for v in nodes}
    for name, u, v, length in edges:
        far[u, v] = far[v, u] = min(far[u, v], (abs(length), (name,)))
    for middle, u, v in itertools.product(nodes, repeat=3):
        total = far[u, middle][0] + far[middle, v][0]
        if total < far[u, v][0]:
            far[u, v] = (total, far[u, middle][1] + far[middle, v][1])
    return far


def large_network(seed, node_count=40, edge_count=100, odd_count=10, shortest=1, longest=1000000, calm=True):
    """A tuple (nodes, edges); its negative edges have this many odd nodes, and it is calm or (most often) not."""
    chance = random.Random(seed)
    nodes = names(node_count)
    edges = [(name, *chance.sample(nodes, 2), chance.randint(shortest, longest)) for name in names(edge_count)]
    part = max(parts_of(nodes, edges), key=len)
    points = chance.sample(part, odd_count)
    far = shortest_ways(nodes, edges)
    pairing = next(pairings(points))
    if calm:
        pairing = min(pairings(points), key=lambda pairs: sum(far[pair][0] for pair in pairs))
    negative = set()
    for pair in pairing:
        negative ^= set(far[pair][1])
    return nodes, turned(edges, negative)
