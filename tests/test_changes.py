"""Promises [14], [15], [16] and "lendroads/changes.py" in the interface."""

import random
import unittest

import brute
from tools import NO_NAMES, Case

from lendroads.calm import is_calm, join_certificate
from lendroads.changes import distance_range, distance_under, turned
from lendroads.cycles import fall
from lendroads.distances import distance, distances, shortest_path
from lendroads.edgesets import EdgeSet
from lendroads.errors import InvalidLength, NotJoined, TooMany, UnknownEdge, UnknownNode
from lendroads.joins import join_length
from lendroads.networks import Network

N = Network(["a", "b", "c"], [("ab", "a", "b", -1), ("bc", "c", "b", 1), ("ca", "c", "a", 1)])
NOT_CALM = N.with_lengths(ca=-1)
NO_LENGTHS = [None, True, False, "1", "", 1000001, -1000001, 10 ** 59, (), (1,), [], [1], {}, {"a": 1}]
# Twelve nodes in a row, with negative edges at ten of them.
ROW = Network.chain(-1, 2, -1, 2, -1, 2, -1, 2, -1, 2, 5)


class Turned(Case):
    def test_example(self):
        found = [turned(N, "ab", "ca").edges[0], distance_under(N, "a", "c", ab=3), distance_range(N, "a", "c", "ab")]
        self.assertEqual(found, [("ab", "a", "b", 1), 1, (-1, 1)])

    def test_all_sets_of_small_networks(self):
        for nodes, edges in brute.small_networks(40, 6):
            network = Network(nodes, edges)
            for some in brute.subsets(network.names):
                found = turned(network, *some)
                self.assertIs(type(found), Network)
                self.assertEqual(found, Network(nodes, brute.turned(edges, some)))
                self.assertEqual(turned(network, *some, *some[::-1]), found)
                self.assertEqual(turned(found, *some), network)

    def test_names_that_occur_several_times(self):
        self.assertEqual(turned(N, "ab", "ab").edges[0], ("ab", "a", "b", 1))
        self.assertEqual(turned(N, "ca", "ab", "ca", "ca"), turned(N, "ab", "ca"))
        self.assertEqual(turned(N), N)
        self.assertEqual(turned(network=N), N)
        self.assertEqual(turned(N.with_lengths(ab=0), "ab")["ab"], ("ab", "a", "b", 0))

    def test_unknown_edges(self):
        for value in [*NO_NAMES, "a", "zz"]:
            self.assertIs(self.assert_error(UnknownEdge, value, turned, N, "ab", "ab", value, "x"), value)
            self.assertIs(self.assert_error(UnknownEdge, value, turned, ROW, "ek", value), value)

    def test_too_many(self):
        self.assert_error(TooMany, 10, turned, ROW, "ek")
        self.assert_error(TooMany, 10, turned, ROW, "ek", "ek")
        self.assertEqual(turned(ROW, "ek", "ea").length, ROW.length - 10 + 2)
        self.assertEqual(turned(ROW, "ej", "ek").length, ROW.length - 14)

    def test_a_join_is_a_least_one_if_the_network_is_calm_with_it_turned(self):
        found = []
        for nodes, edges in brute.small_networks(40, 6):
            network = Network(nodes, edges)
            lengths = brute.least_lengths(edges)
            for some in brute.subsets(network.names):
                join = EdgeSet.listed(network, some)
                found.append(join.length == lengths[join.odd])
                self.assertIs(is_calm(turned(network, *some)), found[-1])
                if found[-1] and len(join.odd) <= 4:
                    join_certificate(join)
        self.assertTrue(100 < sum(found) < len(found) - 100)

    def test_distances_when_a_shortest_path_is_turned(self):
        for seed in range(6):
            network = Network(*brute.large_network(seed, 30, 70, odd_count=6, longest=20))
            part = max(network.parts(), key=len)
            chance = random.Random(seed)
            u, v, x, y = chance.sample(part, 4)
            path = shortest_path(network, u, v)
            other = turned(network, *path.edges)
            self.assertTrue(is_calm(other))
            self.assertEqual(distance(other, u, v), -path.length)
            self.assertEqual(distance(other, x, y), join_length(network, u, v, x, y) - path.length)
            self.assertEqual(distance(other, u, y), join_length(network, v, y) - path.length)
            self.assertEqual(distances(turned(other, *path.edges), x), distances(network, x))


class DistanceUnder(Case):
    def test_small_networks(self):
        chance = random.Random(1)
        calm = []
        for nodes, edges in brute.small_networks(150, 7):
            network = Network(nodes, edges)
            some = chance.sample(network.names, chance.randint(0, len(edges)))
            lengths = {name: chance.randint(-2, 4) for name in some}
            changed = [(name, u, v, lengths.get(name, length)) for name, u, v, length in edges]
            other = Network(nodes, changed)
            calm.append(brute.is_calm(changed))
            for u in nodes:
                for v in nodes:
                    if calm[-1]:
                        expected = brute.distance(changed, u, v)
                        self.assertEqual(distance_under(network, u, v, **lengths), expected)
                    else:
                        self.assert_not_calm(other, distance_under, network, u, v, **lengths)
        self.assertTrue(40 < sum(calm) < 140)

    def test_network_that_is_not_calm_before(self):
        self.assertEqual(distance_under(NOT_CALM, "a", "c", ca=1), 0)
        self.assertEqual(distance_under(NOT_CALM, "a", "c", ca=0, bc=7), 0)
        self.assert_not_calm(NOT_CALM, distance_under, NOT_CALM, "a", "c")

    def test_edges_called_as_arguments(self):
        names = ["self", "name", "lengths", "edges"]
        network = Network(["a", "b"], [(name, "a", "b", 9) for name in names])
        for name in names:
            self.assertEqual(distance_under(network, "a", "b", **{name: 4}), 4)
        self.assertEqual(distance_under(network=network, u="a", v="b", self=-9), -9)
        self.assertEqual(distance_under(self=-8, v="b", u="b", network=network), 0)
        for value in NO_LENGTHS:
            self.assertIs(self.assert_error(InvalidLength, value, distance_under, network, "a", "b", self=value), value)

    def test_errors_in_their_order(self):
        for network in (N, NOT_CALM):
            for value in [*NO_NAMES, "d", "ab"]:
                call = (UnknownNode, value, distance_under, network)
                self.assertIs(self.assert_error(*call, value, None, zz=None), value)
                self.assertIs(self.assert_error(*call, "a", value, zz=None, ab=None), value)
            self.assert_error(UnknownEdge, "zz", distance_under, network, "a", "b", ab="x", zz=0, yy=0)
            self.assert_error(UnknownEdge, "A b", distance_under, network, "a", "b", **{"ab": "x", "A b": 0, "yy": 0})
            for value in NO_LENGTHS:
                call = (InvalidLength, value, distance_under, network, "a", "b")
                self.assertIs(self.assert_error(*call, ab=1, bc=value, ca="x"), value)
        self.assert_error(InvalidLength, "x", distance_under, ROW, "a", "b", ek=-1, ea="x")
        self.assert_error(TooMany, 10, distance_under, ROW, "a", "b", ek=-1)
        ring = ROW.with_edges(("back", "a", "b", 1))
        self.assert_error(TooMany, 10, distance_under, ring, "a", "b", back=0, ek=-1)
        self.assert_not_calm(ring.with_lengths(back=0), distance_under, ring, "a", "b", back=0)


class DistanceRange(Case):
    def lengths_allowed(self, edges, name):
        """Some lengths of an edge with which the network is calm, the least one among them if there is one."""
        lengths = range(-14, 30)
        return [length for length in lengths if brute.is_calm(self.with_length(edges, name, length))]

    def with_length(self, edges, name, length):
        return [(one, u, v, length if one == name else before) for one, u, v, before in edges]

    def test_distances_at_many_lengths(self):
        shapes = set()
        for nodes, edges in brute.small_calm_networks(100, 7):
            network = Network(nodes, edges[:7])
            if not brute.is_calm(edges[:7]):
                continue
            for name in network.names:
                allowed = self.lengths_allowed(network.edges, name)
                for u in network.nodes:
                    for v in network.nodes:
                        shapes.add(self.check_range(network, u, v, name, allowed))
        self.assertEqual(shapes, {"not joined", "bridge between", "bridge elsewhere", "cycle, moved", "cycle, same"})

    def check_range(self, network, u, v, name, allowed):
        """Compares with all distances and tells what kind of an edge it was."""
        if brute.distance(network.edges, u, v) is None:
            with self.assertRaises(NotJoined):
                distance_range(network, u, v, name)
            return "not joined"
        found = distance_range(network, u, v, name)
        self.assertIs(type(found), tuple)
        ways = [(brute.length_of(path) - (network[name][3] if network[name] in path else 0), network[name] in path)
                for path in brute.paths_of(network.edges, u, v)]
        far = [min([total + (length if passes else 0) for total, passes in ways]) for length in allowed]
        is_bridge = allowed[0] == -14
        if is_bridge and all([passes for _, passes in ways]):
            self.assertEqual(found, (None, None))
            return "bridge between"
        self.assertEqual(found, (min(far), max(far)))
        if is_bridge:
            return "bridge elsewhere"
        return "cycle, moved" if found[0] != found[1] else "cycle, same"

    def test_a_node_and_itself(self):
        for name in N.names:
            self.assertEqual(distance_range(N, "b", "b", name), (0, 0))
        self.assertEqual(distance_range(Network.chain(-3), "a", "a", "ea"), (0, 0))

    def test_other_limits_do_not_matter(self):
        chain = Network.chain(*[1000000] * 25).with_edges(("back", "a", "z", 1000000))
        self.assertEqual(distance_range(chain, "a", "z", "back"), (-25000000, 25000000))
        self.assertEqual(distance_range(chain, "a", "b", "ea"), (-25000000, 25000000))
        self.assertEqual(distance_range(chain, "a", "y", "back"), (-24000000, 24000000))
        ring = ROW.with_edges(("back", "k", "l", 9))
        # With a negative length of ek, the negative edges would have 12 odd nodes.
        self.assertEqual(distance_range(ring, "k", "l", "ek"), (-9, 9))
        self.assertEqual(distance_range(ring, "a", "l", "ek"), (-4, 14))
        self.assertEqual(distance_range(ROW, "a", "l", "ec"), (None, None))
        self.assertEqual(distance_range(ROW, "a", "c", "ec"), (1, 1))

    def test_large_networks(self):
        for seed in range(6):
            network = Network(*brute.large_network(seed, longest=(9, 1000000)[seed & 1]))
            chance = random.Random(seed)
            u, v = chance.sample(max(network.parts(), key=len), 2)
            for name in [*chance.sample(network.names, 10), *shortest_path(network, u, v).edges[:10]]:
                self.check_large(network, u, v, name)

    def check_large(self, network, u, v, name):
        least, most = distance_range(network, u, v, name)
        by = fall(network, name)
        _, x, y, length = network[name]
        if by is not None:
            others = [edge for edge in network.edges if edge[0] != name]
            if brute.has_few_odd_nodes(others):
                self.assertEqual(distance(Network(network.nodes, others), u, v), most)
            lowered = [*others, (name, x, y, length - by)]
            if brute.has_few_odd_nodes(lowered) and abs(length - by) <= 1000000:
                self.assertEqual(distance(Network(network.nodes, lowered), u, v), least)
            self.assertTrue(least <= distance(network, u, v) <= most)

    def test_errors_in_their_order(self):
        two = N.with_nodes("d")
        for network in (two, two.with_lengths(ca=-1)):
            for value in [*NO_NAMES, "e", "ab"]:
                call = (UnknownNode, value, distance_range, network)
                self.assertIs(self.assert_error(*call, value, None, "zz"), value)
                self.assertIs(self.assert_error(*call, "a", value, "zz"), value)
            for value in [*NO_NAMES, "a", "zz"]:
                self.assertIs(self.assert_error(UnknownEdge, value, distance_range, network, "a", "d", value), value)
        other = two.with_lengths(ca=-1)
        for u, v in (("a", "b"), ("a", "d"), ("d", "d")):
            self.assert_not_calm(other, distance_range, other, u, v, "ab")
        for u, v in (("a", "d"), ("d", "b")):
            with self.assertRaises(NotJoined):
                distance_range(two, u, v, "ab")
        self.assertEqual(distance_range(two, "d", "d", "ab"), (0, 0))
        self.assertEqual(distance_range(network=N, u="a", v="c", name="bc"), (-1, 1))


if __name__ == "__main__":
    unittest.main()
