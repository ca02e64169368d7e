"""Promises [4], [12], [14] and "lendroads/joins.py" in the interface."""

import itertools
import random
import unittest

import brute
from tools import NO_NAMES, Case

from lendroads.calm import accepts_join, is_calm, join_certificate
from lendroads.distances import distance, is_shortest
from lendroads.edgesets import EdgeSet
from lendroads.errors import InvalidNodes, TooMany, UnknownNode
from lendroads.joins import join_length, least_join, pairs
from lendroads.networks import Network
from lendroads.paths import Path

N = Network(["a", "b", "c"], [("ab", "a", "b", -1), ("bc", "c", "b", 1), ("ca", "c", "a", 1)])
NOT_CALM = N.with_lengths(ca=-1)


def some_nodes(nodes, most):
    """All tuples of 0 to 4 nodes, or so many of them that are chosen by chance, in an order by chance."""
    chance = random.Random(len(nodes))
    found = [some for count in range(5) for some in itertools.combinations(nodes, count)]
    return [tuple(chance.sample(some, len(some))) for some in chance.sample(found, min(most, len(found)))]


class JoinCase(Case):
    def check_join(self, network, nodes, expected):
        self.assertEqual(join_length(network, *nodes), expected)
        join = least_join(network, *nodes)
        if expected is None:
            self.assertIsNone(join)
        else:
            self.assertIs(type(join), EdgeSet)
            self.assertEqual([join.network, join.odd, join.length], [network, tuple(sorted(nodes)), expected])
            self.assertTrue(accepts_join(join, join_certificate(join)))

    def check_pairs(self, network, nodes, expected):
        paths = pairs(network, *nodes)
        if expected is None:
            self.assertIsNone(paths)
            return
        self.assertIs(type(paths), list)
        names = []
        for path in paths:
            self.assertIs(type(path), Path)
            self.assertEqual(path.network, network)
            names.extend(path.edges)
        self.assertEqual(len(set(names)), len(names))
        self.assertEqual(sorted([end for path in paths for end in (path.start, path.end)]), sorted(nodes))
        self.assertEqual(sum([path.length for path in paths]), expected)
        join = EdgeSet.listed(network, names)
        self.assertTrue(accepts_join(join, join_certificate(join)))
        if len(nodes) == 2:
            self.assertIs(is_shortest(paths[0]), True)


class Joins(JoinCase):
    def test_example(self):
        found = [join_length(N), join_length(N, "a", "c"), join_length(N, "b"), least_join(N, "a", "b").names]
        self.assertEqual(found, [0, 0, None, ("ab",)])

    def test_all_sets_of_edges_of_small_networks(self):
        calm = []
        for nodes, edges in brute.small_networks(200, 8):
            network = Network(nodes, edges)
            lengths = brute.least_lengths(edges)
            calm.append(brute.is_calm(edges))
            for some in some_nodes(nodes, 60):
                expected = lengths.get(tuple(sorted(some)))
                self.check_join(network, some, expected)
                if calm[-1]:
                    self.check_pairs(network, some, expected)
        self.assertTrue(50 < sum(calm) < 150)

    def test_many_odd_nodes(self):
        for seed in range(20):
            nodes, edges = brute.many_odd_nodes(seed)
            network = Network(nodes, edges)
            lengths = brute.least_lengths(edges)
            for some in some_nodes(nodes, 30):
                expected = lengths.get(tuple(sorted(some)))
                self.check_join(network, some, expected)
                if is_calm(network):
                    self.check_pairs(network, some, expected)

    def test_none_where_a_part_contains_an_odd_number(self):
        two = Network(["a", "b", "c", "d", "e"], [("x", "a", "b", -1), ("y", "c", "d", 2), ("z", "d", "c", 5)])
        for some in ("a", "e", "ac", "ae", "abc", "abe", "abce", "acde", "acd", "ce"):
            self.assertIsNone(join_length(two, *some))
            self.assertIsNone(least_join(two, *some))
            self.assertIsNone(pairs(two, *some))
        for some, names in (("", ()), ("ab", ("x",)), ("cd", ("y",)), ("dbca", ("x", "y"))):
            self.check_join(two, some, sum([two[name][3] for name in names]))
            self.assertEqual(least_join(two, *some).names, names)
            self.check_pairs(two, some, sum([two[name][3] for name in names]))

    def test_no_nodes(self):
        self.assertEqual([join_length(N), pairs(N), least_join(N).length], [0, [], 0])
        self.assertEqual([join_length(NOT_CALM), least_join(NOT_CALM).names], [-1, ("ab", "bc", "ca")])
        self.assertEqual(pairs(Network.ring(-1, 1)), [])
        self.assertEqual([join_length(Network(["a"])), least_join(Network(["a"])).names], [0, ()])

    def test_paths_are_not_just_the_nearest_pairs(self):
        # The nearest two are a and b, but all four are paired best as a, c and b, d.
        chain = Network.chain(1, 1, 1)
        self.check_pairs(chain, "acbd", 2)
        ring = Network.ring(5, 1, 1, 1)
        self.check_pairs(ring, "abcd", 2)
        crossing = Network(list("abcdx"), [(node, node, "x", 3) for node in "abcd"])
        self.check_pairs(crossing, "abcd", 12)
        self.check_pairs(crossing, "abxd", 9)

    def test_paths_need_not_be_shortest_one_by_one(self):
        # From a to d, going by c and e is shorter, but then the path from b to c would need ce, too.
        edges = [("ac", "a", "c", -1), ("ad", "a", "d", 1), ("be", "b", "e", 2), ("bc", "c", "b", 9),
                 ("ce", "c", "e", -3), ("de", "d", "e", 4), ("ec", "e", "c", 3)]
        network = Network(list("abcde"), edges)
        self.check_pairs(network, "abcd", 0)
        self.assertEqual(distance(network, "a", "d"), 0)
        self.assertEqual(sorted([path.length for path in pairs(network, "a", "b", "c", "d")]), [-1, 1])

    def test_networks_that_are_not_calm(self):
        ring = Network.ring(-1, -1, 1)
        self.check_join(ring, (), -1)
        self.check_join(ring, ("a", "c"), -2)
        self.check_join(ring, ("a", "b"), -1)
        self.check_join(Network.ring(-1, -1), ("a", "b"), -1)

    def test_large_networks(self):
        for seed in range(8):
            network = Network(*brute.large_network(seed, longest=(3, 1000000)[seed & 1], calm=seed < 6))
            chance = random.Random(seed)
            part = max(network.parts(), key=len)
            for count in (0, 2, 4, 4, 4):
                some = chance.sample(part, count)
                join = least_join(network, *some)
                # The certificate shows that there is no join of a lesser length.
                self.check_join(network, some, join.length)
                if seed < 6:
                    self.check_pairs(network, some, join.length)
            self.check_join(network, chance.sample(part, 3), None)

    def test_results_belong_to_the_caller(self):
        found = pairs(N, "a", "b")
        found.clear()
        self.assertEqual(len(pairs(N, "a", "b")), 1)
        self.assertEqual(pairs(N, "a", "b"), pairs(N, "a", "b"))


class Errors(JoinCase):
    def test_unknown_nodes_come_first(self):
        for call in (join_length, least_join, pairs):
            for network in (N, NOT_CALM):
                for value in [*NO_NAMES, "d", "ab"]:
                    self.assertIs(self.assert_error(UnknownNode, value, call, network, value, "zz"), value)
                    some = ("a", "a", "b", "c", "b", value)
                    self.assertIs(self.assert_error(UnknownNode, value, call, network, *some), value)

    def test_a_node_that_occurs_twice(self):
        for call in (join_length, least_join, pairs):
            for network in (N, NOT_CALM):
                for some in (("a", "a"), ("a", "b", "a"), ("c", "b", "a", "b", "c"), ("a",) * 6):
                    self.assert_error(InvalidNodes, some, call, network, *some)

    def test_too_many(self):
        for call in (join_length, least_join, pairs):
            for network in (Network.ring(1, 1, 1, 1, 1, 1), Network.ring(-1, -1, -1, 1, 1, 1)):
                self.assert_error(TooMany, 4, call, network, *"abcde")
                self.assert_error(TooMany, 4, call, network, *"fedcba")
                self.assert_error(InvalidNodes, tuple("abcda"), call, network, *"abcda")

    def test_not_calm(self):
        for some in ((), ("a", "b"), ("c",), ("a", "b", "c")):
            self.assert_not_calm(NOT_CALM, pairs, NOT_CALM, *some)
            join_length(NOT_CALM, *some)
            least_join(NOT_CALM, *some)

    def test_names_of_arguments(self):
        self.assertEqual(join_length(network=N), 0)
        self.assertEqual(least_join(network=N).length, 0)
        self.assertEqual(pairs(network=N), [])


if __name__ == "__main__":
    unittest.main()
