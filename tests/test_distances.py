"""Promises [4], [15], [16] and "lendroads/distances.py" in the interface."""

import random
import time
import unittest

import brute
from tools import NO_NAMES, Case

from lendroads.calm import accepts_path, is_calm, join_certificate
from lendroads.distances import distance, distances, is_shortest, needed_edges, shortest_path
from lendroads.errors import UnknownNode
from lendroads.joins import join_length
from lendroads.networks import Network
from lendroads.paths import Path, all_cycles, all_paths

N = Network(["a", "b", "c"], [("ab", "a", "b", -1), ("bc", "c", "b", 1), ("ca", "c", "a", 1)])
SAME = Network(["c", "b", "a"], [("bc", "b", "c", 1), ("ca", "c", "a", 1), ("ab", "a", "b", -1)])
NOT_CALM = N.with_lengths(ca=-1)
SMALL = [(Network(nodes, edges), edges) for nodes, edges in brute.small_calm_networks(300, 8)]


class Distances(Case):
    def test_example(self):
        found = [distance(N, "a", "c"), distances(N, "a"), shortest_path(N, "a", "c").edges, needed_edges(N, "a", "c")]
        self.assertEqual(found, [0, {"a": 0, "b": -1, "c": 0}, ("ab", "bc"), ("ab", "bc")])

    def test_all_paths_of_small_networks(self):
        self.assertGreater(len(SMALL), 100)
        odd_counts = [len(brute.odd_of([edge for edge in edges if edge[3] < 0])) for _, edges in SMALL]
        self.assertEqual(max(odd_counts), 10)
        for network, edges in SMALL:
            for u in network.nodes[:7]:
                expected = {v: brute.distance(edges, u, v) for v in network.nodes}
                found = distances(network, u)
                self.assertEqual(found, expected)
                self.assertEqual(list(found), sorted(network.nodes))
                self.assert_plain(found)
                for v in network.nodes:
                    self.assertEqual(distance(network, u, v), expected[v])
                    self.check_path(network, u, v, expected[v])

    def check_path(self, network, u, v, expected):
        path = shortest_path(network, u, v)
        if expected is None:
            self.assertIsNone(path)
        else:
            self.assertIs(type(path), Path)
            self.assertEqual([path.network, path.start, path.end, path.length], [network, u, v, expected])
            self.assertIs(is_shortest(path), True)
            self.assertTrue(accepts_path(path, join_certificate(path.edge_set)))

    def test_a_node_and_itself(self):
        for network in (N, Network(["a"]), Network.ring(-1, 1), Network.chain(-3, -3)):
            self.assertEqual(distance(network, "a", "a"), 0)
            self.assertEqual(shortest_path(network, "a", "a"), Path(network, "a"))
            self.assertEqual(needed_edges(network, "a", "a"), ())

    def test_nodes_that_are_not_connected(self):
        network = N.with_nodes("d", "e").with_edges(("de", "d", "e", -5))
        self.assertEqual(distances(network, "a"), {"a": 0, "b": -1, "c": 0, "d": None, "e": None})
        self.assertEqual(distances(network, "e"), {"a": None, "b": None, "c": None, "d": -5, "e": 0})
        self.assertEqual([distance(network, "a", "d"), shortest_path(network, "a", "d")], [None, None])
        self.assertIsNone(needed_edges(network, "e", "a"))
        self.assertEqual(distances(Network(["b", "a"]), "b"), {"a": None, "b": 0})

    def test_a_part_of_a_shortest_path_need_not_be_one(self):
        path = shortest_path(N, "a", "c")
        self.assertEqual(path.edges, ("ab", "bc"))
        self.assertIs(is_shortest(Path(N, "b", "bc")), False)
        self.assertGreater(distance(N, "a", "c"), distance(N, "a", "b") + distance(N, "b", "c"))
        self.assertEqual(shortest_path(N, "b", "c").edges, ("ab", "ca"))

    def test_longest_lengths(self):
        self.assertEqual(distance(Network.chain(*[-1000000] * 25), "a", "z"), -25000000)
        ring = Network.ring(*[-1000000] * 13, *[1000000] * 13)
        self.assertEqual([distance(ring, "a", "n"), distance(ring, "d", "q")], [-13000000, -7000000])

    def test_a_new_dict_each_time(self):
        found = distances(N, "a")
        found["a"] = 5
        del found["b"]
        self.assertEqual(distances(N, "a"), {"a": 0, "b": -1, "c": 0})
        self.assertIsNot(distances(N, "a"), distances(N, "a"))

    def test_equal_calls(self):
        self.assertEqual(shortest_path(N, "a", "c"), shortest_path(SAME, "a", "c"))
        for seed in range(4):
            nodes, edges = brute.large_network(seed, longest=3)
            one = Network(nodes, edges)
            other = Network(nodes[::-1], [(name, v, u, length) for name, u, v, length in edges[::-1]])
            for u, v in zip(nodes[:8], nodes[8:]):
                self.assertEqual(shortest_path(one, u, v), shortest_path(other, u, v))
                self.assertEqual(needed_edges(one, u, v), needed_edges(other, u, v))


class ShortestPaths(Case):
    def test_all_paths_of_small_networks(self):
        found = []
        for network, edges in SMALL[:60]:
            for u in network.nodes:
                for v in network.nodes:
                    least = brute.distance(edges, u, v)
                    for path in all_paths(network, u, v):
                        found.append(path.length == least)
                        self.assertIs(is_shortest(path), found[-1])
        self.assertTrue(100 < sum(found) < len(found) - 100)

    def test_paths_without_edges(self):
        for network, _ in SMALL[:60]:
            for node in network.nodes:
                self.assertIs(is_shortest(Path(network, node)), True)

    def test_needed_edges(self):
        for network, edges in SMALL:
            for u in network.nodes[:7]:
                for v in network.nodes:
                    paths = [set(brute.names_in(path)) for path in brute.shortest_paths(edges, u, v)]
                    expected = tuple(sorted(set.intersection(*paths))) if paths else None
                    self.assertEqual(needed_edges(network, u, v), expected)

    def test_needed_edges_of_equal_paths(self):
        two = Network(["a", "b", "c"], [("x", "a", "b", 2), ("y", "b", "a", 2), ("z", "c", "b", -9)])
        self.assertEqual(needed_edges(two, "a", "c"), ("z",))
        self.assertEqual(needed_edges(two, "b", "a"), ())
        self.assertEqual(needed_edges(two.with_lengths(y=3), "c", "a"), ("x", "z"))
        self.assertEqual(needed_edges(Network.ring(1, -1, 2, 2), "a", "c"), ("ea", "eb"))
        self.assertEqual(needed_edges(Network.ring(1, -1, 1, -1), "a", "c"), ())

    def test_removed_negative_edge_would_make_too_many_odd_nodes(self):
        nodes = brute.names(20)
        edges = [("e" + nodes[at], nodes[at], nodes[at + 1], -1 if at & 3 else 1) for at in range(19)]
        network = Network(nodes, edges).with_edges(("zz", "b", "e", 50))
        self.assertEqual(len(brute.odd_of([edge for edge in edges if edge[3] < 0])), 10)
        names = tuple(sorted(name for name, _, _, _ in edges))
        self.assertEqual(needed_edges(network, "a", "t"), names)
        self.assertEqual(needed_edges(network.with_lengths(zz=3), "a", "t"), names)


class Turning(Case):
    """Promise [16], where the network with the turned edges is one."""

    def turned(self, network, names):
        edges = brute.turned(network.edges, names)
        return Network(network.nodes, edges) if brute.has_few_odd_nodes(edges) else None

    def test_cycles_with_the_length_0(self):
        count = 0
        for network, _ in SMALL:
            for cycle in all_cycles(network):
                other = self.turned(network, cycle.names)
                if cycle.length == 0 and other is not None:
                    count += 1
                    self.assertTrue(is_calm(other))
                    for u in network.nodes[:7]:
                        self.assertEqual(distances(other, u), distances(network, u))
        self.assertGreater(count, 20)

    def test_shortest_paths(self):
        for network, _ in SMALL[:80]:
            for u, v in zip(network.nodes, network.nodes[1:]):
                path = shortest_path(network, u, v)
                other = path and self.turned(network, path.edges)
                if other:
                    self.assertTrue(is_calm(other))
                    self.assertEqual(distance(other, u, v), -path.length)
                    for x in network.nodes:
                        for y in network.nodes:
                            ends = sorted({u, v} ^ ({x, y} if x != y else set()))
                            length = join_length(network, *ends)
                            expected = None if length is None else length - path.length
                            self.assertEqual(distance(other, x, y), expected)


class Errors(Case):
    def test_unknown_nodes(self):
        for network in (N, NOT_CALM):
            for value in [*NO_NAMES, "d", "ab"]:
                self.assertIs(self.assert_error(UnknownNode, value, distances, network, value), value)
                for call in (distance, shortest_path, needed_edges):
                    for v in ("a", "x", None):
                        self.assertIs(self.assert_error(UnknownNode, value, call, network, value, v), value)
                    self.assertIs(self.assert_error(UnknownNode, value, call, network, "a", value), value)

    def test_not_calm(self):
        for call in (distance, shortest_path, needed_edges):
            self.assert_not_calm(NOT_CALM, call, NOT_CALM, "a", "b")
            self.assert_not_calm(NOT_CALM, call, NOT_CALM, "a", "a")
        self.assert_not_calm(NOT_CALM, distances, NOT_CALM, "a")
        self.assert_not_calm(NOT_CALM, is_shortest, Path(NOT_CALM, "a", "ab"))
        self.assert_not_calm(NOT_CALM, is_shortest, Path(NOT_CALM, "a"))

    def test_not_calm_in_another_part(self):
        network = N.with_nodes("d", "e").with_edges(("x", "d", "e", -2), ("y", "d", "e", 1))
        self.assert_not_calm(network, distance, network, "a", "b")
        self.assert_not_calm(network, distances, network, "a")
        self.assert_not_calm(network, shortest_path, network, "a", "d")
        self.assert_not_calm(network, needed_edges, network, "a", "d")

    def test_large_networks_that_are_not_calm(self):
        for seed in range(6):
            network = Network(*brute.large_network(seed, calm=False))
            if not is_calm(network):
                self.assert_not_calm(network, distance, network, "a", "b")

    def test_names_of_arguments(self):
        self.assertEqual(distance(network=N, u="a", v="c"), 0)
        self.assertEqual(distances(network=N, u="b"), {"a": -1, "b": 0, "c": 0})
        path = shortest_path(network=N, u="a", v="c")
        self.assertIs(is_shortest(path=path), True)
        self.assertEqual(needed_edges(network=N, u="a", v="c"), ("ab", "bc"))


class LargeNetworks(Case):
    def check_path(self, network, u, v, expected):
        """The path has the length of the distance, and a certificate shows that it is shortest."""
        path = shortest_path(network, u, v)
        if expected is None:
            self.assertIsNone(path)
            self.assertNotIn(v, [part for part in network.parts() if u in part][0])
            return
        self.assertEqual([path.start, path.end, path.length], [u, v, expected])
        self.assertTrue(accepts_path(path, join_certificate(path.edge_set)))
        self.assertIs(is_shortest(path), True)
        for other in self.longer_paths(network, path):
            self.assertIs(is_shortest(other), other.length == expected)

    def longer_paths(self, network, path):
        """The path with one edge replaced by another one between the same nodes."""
        for at, name in enumerate(path.edges):
            for other in network.names:
                if other != name and network[other][1:3] == network[name][1:3]:
                    yield Path.along(network, path.start, [*path.edges[:at], other, *path.edges[at + 1:]])

    def test_by_certificates(self):
        for seed in range(12):
            longest = (2, 9, 1000, 1000000)[seed & 3]
            network = Network(*brute.large_network(seed, longest=longest))
            chance = random.Random(seed)
            for u in chance.sample(network.nodes, 3):
                far = distances(network, u)
                for v in chance.sample(network.nodes, 8):
                    self.check_path(network, u, v, far[v])
                    self.assertEqual(distance(network, v, u), far[v])

    def test_needed_edges(self):
        for seed in range(8):
            network = Network(*brute.large_network(seed, longest=(1, 3)[seed & 1]))
            chance = random.Random(seed)
            for _ in range(6):
                u, v = chance.sample(network.nodes, 2)
                self.check_needed(network, u, v)

    def check_needed(self, network, u, v):
        found = needed_edges(network, u, v)
        path = shortest_path(network, u, v)
        if path is None:
            self.assertIsNone(found)
            return
        self.assertEqual(found, tuple(sorted(found)))
        self.assertLessEqual(set(found), set(path.edges))
        for name in path.edges:
            others = [edge for edge in network.edges if edge[0] != name]
            if brute.has_few_odd_nodes(others):
                self.assertEqual(name in found, distance(Network(network.nodes, others), u, v) != path.length)

    def test_few_seconds(self):
        network = Network(*brute.large_network(1))
        began = time.process_time()
        for u in network.nodes[:10]:
            distances(network, u)
            needed_edges(network, u, network.nodes[-1])
        self.assertLess(time.process_time() - began, 20)


if __name__ == "__main__":
    unittest.main()
