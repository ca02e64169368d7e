"""Promises [12] and [14]: least joins for nodes, found by absolute lengths."""

import random
import unittest

import brute

from lendroads.pairing import LeastJoins, routes_from
from lendroads.rules import edges_by_node


class Joins(unittest.TestCase):
    def check(self, least_joins, edges, ends, expected):
        self.assertEqual(least_joins.least_length(ends), expected)
        if expected is not None:
            names = least_joins.least_names(ends)
            join = [edge for edge in edges if edge[0] in names]
            self.assertEqual([len(join), brute.length_of(join)], [len(names), expected])
            self.assertEqual(brute.odd_of(join), sorted(ends))

    def test_all_nodes_of_small_networks(self):
        chance = random.Random(1)
        for nodes, edges in brute.small_networks(150, 8):
            counted = [edge[0] for edge in edges if edge[3] < 0 or edge[3] == 0 and chance.random() < 0.5]
            least_joins = LeastJoins(edges, counted)
            lengths = brute.least_lengths(edges)
            for ends in brute.subsets(nodes):
                self.check(least_joins, edges, chance.sample(ends, len(ends)), lengths.get(ends))

    def test_nodes_that_are_given_twice(self):
        for nodes, edges in brute.small_networks(20, 8):
            least_joins = LeastJoins(edges, [edge[0] for edge in edges if edge[3] < 0])
            for u in nodes:
                self.assertEqual(least_joins.least_length((u, u)), least_joins.least_length(()))
                self.assertEqual(least_joins.least_length((u, u, "a")), least_joins.least_length(("a",)))

    def test_no_join(self):
        least_joins = LeastJoins([("x", "a", "b", 1), ("y", "c", "d", -1)], ["y"])
        for ends in (("a",), ("a", "c"), ("a", "b", "c"), ("a", "z"), ("z",), ("a", "b", "c", "z")):
            self.assertIsNone(least_joins.least_length(ends))
        for ends, names, length in (("", [], 0), ("ab", ["x"], 1), ("cd", ["y"], -1), ("abcd", ["x", "y"], 0)):
            self.assertEqual([least_joins.least_names(ends), least_joins.least_length(ends)], [names, length])

    def test_many_nodes(self):
        nodes, edges = brute.large_network(1, odd_count=12)
        negative = [edge for edge in edges if edge[3] < 0]
        least_joins = LeastJoins(edges, [edge[0] for edge in negative])
        self.assertEqual(least_joins.least_length(()), 0)
        self.check(least_joins, edges, brute.odd_of(negative), brute.length_of(negative))
        part = max(brute.parts_of(nodes, edges), key=len)
        ends = [node for node in part if node not in brute.odd_of(negative)][:4]
        self.check(least_joins, edges, ends, least_joins.least_length(ends))


class Routes(unittest.TestCase):
    def test_large_networks(self):
        for seed in range(3):
            nodes, edges = brute.large_network(seed, node_count=30, edge_count=40)
            ways = brute.shortest_ways(nodes, edges)
            length_of = {edge[0]: abs(edge[3]) for edge in edges}
            for u in nodes[:5]:
                far, last = routes_from(edges_by_node(edges), u)
                expected = {v: ways[u, v][0] for v in nodes if ways[u, v][0] < 10 ** 9}
                self.assertEqual(far, expected)
                for v in far:
                    # The last edge comes from a node that is nearer by its length.
                    ends = [edge[1:3] for edge in edges if edge[0] == last[v] and v in edge[1:3]]
                    before = [far[node] for pair in ends for node in pair if node != v]
                    self.assertEqual([total + length_of[last[v]] for total in before], [far[v]] if v != u else [])


if __name__ == "__main__":
    unittest.main()
