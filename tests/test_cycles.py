"""Promises [4], [11], [13] and "lendroads/cycles.py" in the interface."""

import random
import unittest

import brute
from tools import NO_NAMES, Case

from lendroads.calm import is_calm
from lendroads.cycles import fall, free_edges, shortest_cycle, shortest_cycle_through
from lendroads.edgesets import EdgeSet
from lendroads.errors import UnknownEdge
from lendroads.networks import Network

N = Network(["a", "b", "c"], [("ab", "a", "b", -1), ("bc", "c", "b", 1), ("ca", "c", "a", 1)])
NOT_CALM = N.with_lengths(ca=-1)


class CycleCase(Case):
    def check_cycle(self, network, cycle, expected, name=None):
        if expected is None:
            self.assertIsNone(cycle)
            return
        self.assertIs(type(cycle), EdgeSet)
        self.assertEqual([cycle.network, cycle.length], [network, expected])
        self.assertTrue(brute.is_cycle([network[one] for one in cycle.names]))
        if name is not None:
            self.assertIn(name, cycle)


class Cycles(CycleCase):
    def test_example(self):
        found = [shortest_cycle(N).names, fall(N, "bc"), free_edges(N), fall(Network.chain(1), "ea")]
        self.assertEqual(found, [("ab", "bc", "ca"), 1, (), None])

    def test_all_cycles_of_small_networks(self):
        free = []
        bridges = 0
        for nodes, edges in brute.small_calm_networks(400, 8):
            network = Network(nodes, edges)
            cycles = brute.cycles_of(edges)
            self.check_cycle(network, shortest_cycle(network), min(map(brute.length_of, cycles), default=None))
            for edge in edges:
                lengths = [brute.length_of(cycle) for cycle in cycles if edge in cycle]
                expected = min(lengths, default=None)
                bridges += expected is None
                self.assertEqual(fall(network, edge[0]), expected)
                self.check_cycle(network, shortest_cycle_through(network, edge[0]), expected, edge[0])
            expected = {edge[0] for cycle in cycles if brute.length_of(cycle) == 0 for edge in cycle}
            self.assertEqual(free_edges(network), tuple(sorted(expected)))
            free.append(len(expected))
        self.assertTrue(free.count(0) > 50 and len(free) - free.count(0) > 30 and bridges > 100)

    def test_fall(self):
        for nodes, edges in brute.small_calm_networks(250, 8):
            network = Network(nodes, edges)
            for name, u, v, length in edges:
                by = fall(network, name)
                others = [edge for edge in edges if edge[0] != name]
                if by is None:
                    self.assertTrue(brute.is_calm([*others, (name, u, v, length - 10 ** 9)]))
                else:
                    self.assertTrue(brute.is_calm([*others, (name, u, v, length - by)]))
                    self.assertFalse(brute.is_calm([*others, (name, u, v, length - by - 1)]))

    def test_fall_beyond_the_limits_of_a_network(self):
        chain = Network.chain(*[1000000] * 25).with_edges(("back", "a", "z", 1000000))
        self.assertEqual([fall(chain, name) for name in ("back", "ea", "ey")], [26000000] * 3)
        nodes = brute.names(14)
        edges = [("n" + nodes[at], nodes[at], nodes[at + 1], -1) for at in range(0, 10, 2)]
        network = Network(nodes, [*edges, ("x", "k", "l", 1), ("y", "l", "m", 7), ("z", "m", "k", 1)])
        # With a negative length of x, the negative edges would have 12 odd nodes.
        self.assertEqual([fall(network, name) for name in "xyz"], [9, 9, 9])

    def test_few_edges(self):
        for network in (Network(["a"]), Network(["a", "b"]), Network.chain(-1, -2, 3), N.without_edges("ab")):
            self.assertIsNone(shortest_cycle(network))
            self.assertEqual(free_edges(network), ())
            for name in network.names:
                self.assertIsNone(fall(network, name))
                self.assertIsNone(shortest_cycle_through(network, name))
        two = Network(["a", "b", "c"], [("x", "a", "b", -1), ("y", "b", "a", 1), ("z", "b", "c", -9)])
        self.assertEqual(shortest_cycle(two).names, ("x", "y"))
        self.assertEqual([free_edges(two), fall(two, "x"), fall(two, "y"), fall(two, "z")], [("x", "y"), 0, 0, None])

    def test_large_networks(self):
        for seed in range(6):
            network = Network(*brute.large_network(seed, longest=(2, 9, 1000000)[seed % 3]))
            falls = {name: fall(network, name) for name in network.names}
            lengths = [by for by in falls.values() if by is not None]
            self.check_cycle(network, shortest_cycle(network), min(lengths))
            self.assertEqual(free_edges(network), tuple(name for name in network.names if falls[name] == 0))
            for name in random.Random(seed).sample(network.names, 20):
                self.check_cycle(network, shortest_cycle_through(network, name), falls[name], name)
                self.check_fall(network, name, falls[name])

    def check_fall(self, network, name, by):
        """The program decides by a certificate or a cycle, which are checked elsewhere, whether networks are calm."""
        _, u, v, length = network[name]
        others = [edge for edge in network.edges if edge[0] != name]
        for change, calm in ((0, True), (1, True), (10 ** 6, True)) if by is None else ((by, True), (by + 1, False)):
            edges = [*others, (name, u, v, length - change)]
            if brute.has_few_odd_nodes(edges) and abs(length - change) <= 1000000:
                self.assertIs(is_calm(Network(network.nodes, edges)), calm)

    def test_equal_calls(self):
        for seed in range(3):
            nodes, edges = brute.large_network(seed, longest=3)
            one = Network(nodes, edges)
            other = Network(nodes[::-1], [(name, v, u, length) for name, u, v, length in edges[::-1]])
            self.assertEqual(shortest_cycle(one), shortest_cycle(other))
            for name in one.names[:9]:
                self.assertEqual(shortest_cycle_through(one, name), shortest_cycle_through(other, name))


class Errors(CycleCase):
    def test_unknown_edges_come_first(self):
        for call in (shortest_cycle_through, fall):
            for network in (N, NOT_CALM):
                for value in [*NO_NAMES, "a", "zz"]:
                    self.assertIs(self.assert_error(UnknownEdge, value, call, network, value), value)

    def test_not_calm(self):
        network = NOT_CALM.with_nodes("d").with_edges(("da", "d", "a", 5))
        for call in (shortest_cycle_through, fall):
            for name in ("ab", "da"):
                self.assert_not_calm(network, call, network, name)
        for call in (shortest_cycle, free_edges):
            self.assert_not_calm(network, call, network)

    def test_names_of_arguments(self):
        self.assertEqual(shortest_cycle(network=N).length, 1)
        self.assertEqual(shortest_cycle_through(network=N, name="ab").length, 1)
        self.assertEqual([fall(network=N, name="ab"), free_edges(network=N)], [1, ()])


if __name__ == "__main__":
    unittest.main()
