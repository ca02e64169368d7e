"""Promise [12] and "lendroads/edgesets.py" in the interface."""

import random
import unittest

import brute
from tools import NO_NAMES, Case

from lendroads.edgesets import EdgeSet
from lendroads.errors import OtherNetwork, UnknownEdge, UnknownNode
from lendroads.networks import Network

N = Network(["a", "b", "c"], [("ab", "a", "b", -1), ("bc", "c", "b", 1), ("ca", "c", "a", 1)])
SAME = Network(["c", "b", "a"], [("bc", "b", "c", 1), ("ca", "c", "a", 1), ("ab", "a", "b", -1)])
OTHERS = [N.with_nodes("d"), N.with_lengths(ab=0), N.with_edges(("x", "a", "b", 1))]


def sets_of_small_networks(count, most_edges):
    """Tuples (edge set, its edges): all sets of edges of small networks."""
    for nodes, edges in brute.small_networks(count, most_edges):
        network = Network(nodes, edges)
        for some in brute.subsets(network.edges):
            yield EdgeSet.listed(network, brute.names_in(some)), some


class Construction(Case):
    def test_example(self):
        found = [EdgeSet(N, "bc", "ab").odd, EdgeSet(N, "ab", "bc").length, EdgeSet(N, "ab", "ca", "bc").is_cycle()]
        self.assertEqual(found, [("a", "c"), 0, True])
        self.assertEqual((EdgeSet(N, "ab", "bc") ^ EdgeSet(N, "bc", "ca")).names, ("ab", "ca"))

    def test_names(self):
        self.assertEqual(EdgeSet(N, "ca", "ab", "ca", "ab").names, ("ab", "ca"))
        self.assertEqual(EdgeSet(N).names, ())
        self.assertEqual(EdgeSet(network=N).names, ())
        self.assertIs(EdgeSet(N, "ca").network, N)

    def test_first_unknown_edge(self):
        for value in [*NO_NAMES, "a", "zz"]:
            self.assertIs(self.assert_error(UnknownEdge, value, EdgeSet, N, "ab", "ab", value, "x"), value)
            self.assertIs(self.assert_error(UnknownEdge, value, EdgeSet.listed, N, ["ab", value, "x"]), value)

    def test_listed(self):
        names = ["ca", "ab", "ca"]
        edge_set = EdgeSet.listed(N, names)
        names[0] = "bc"
        self.assertEqual(edge_set.names, ("ab", "ca"))
        self.assertEqual(EdgeSet.listed(N, ("bc",)), EdgeSet(N, "bc"))
        self.assertEqual(EdgeSet.listed(network=N, names=[]), EdgeSet(N))
        self.assertEqual(EdgeSet(N).listed(N, ["ab"]), EdgeSet(N, "ab"))

    def test_properties_are_not_assigned(self):
        for name in ("network", "names", "odd", "length"):
            with self.assertRaises(AttributeError):
                setattr(EdgeSet(N), name, ())


class Shapes(Case):
    def test_all_sets_of_small_networks(self):
        for edge_set, edges in sets_of_small_networks(60, 8):
            self.assertEqual(edge_set.names, brute.names_in(edges))
            self.assertEqual(edge_set.odd, tuple(brute.odd_of(edges)))
            self.assertEqual(edge_set.length, brute.length_of(edges))
            self.assertIs(edge_set.is_path(), brute.is_path(edges))
            self.assertIs(edge_set.is_cycle(), brute.is_cycle(edges))

    def check_split(self, edge_set):
        pieces = edge_set.split()
        self.assertIs(type(pieces), list)
        self.assertEqual(sorted([name for piece in pieces for name in piece.names]), list(edge_set.names))
        paths = [piece for piece in pieces if piece.is_path()]
        self.assertTrue(all([piece.is_path() or piece.is_cycle() for piece in pieces]))
        self.assertEqual(sorted([node for path in paths for node in path.odd]), list(edge_set.odd))
        for piece in pieces:
            self.assertEqual(piece.network, edge_set.network)
        again = EdgeSet.listed(edge_set.network, edge_set.names).split()
        self.assertEqual([piece.names for piece in again], [piece.names for piece in pieces])

    def test_split(self):
        for edge_set, _ in sets_of_small_networks(60, 8):
            self.check_split(edge_set)
        self.assertEqual(EdgeSet(N).split(), [])

    def test_split_of_large_sets(self):
        chance = random.Random(1)
        for seed in range(30):
            network = Network(*brute.large_network(seed, node_count=chance.choice([11, 20, 40])))
            self.check_split(EdgeSet.listed(network, network.names))
            self.check_split(EdgeSet.listed(network, chance.sample(network.names, 60)))
        parallel = Network(["a", "b"], [(name, "a", "b", 1) for name in brute.names(99)])
        self.check_split(EdgeSet.listed(parallel, parallel.names))

    def test_two_edges_between_the_same_nodes_are_a_cycle(self):
        two = Network(["a", "b"], [("x", "a", "b", 1), ("y", "b", "a", -3), ("z", "b", "a", 0)])
        self.assertIs(EdgeSet(two, "x", "y").is_cycle(), True)
        self.assertIs(EdgeSet(two, "x").is_cycle(), False)
        self.assertIs(EdgeSet(two, "x", "y", "z").is_cycle(), False)
        self.assertIs(EdgeSet(two, "x", "y", "z").is_path(), False)


class Operators(Case):
    def test_all_pairs_of_sets(self):
        signs = [
            (lambda one, other: one ^ other, set.symmetric_difference), (lambda one, other: one | other, set.union),
            (lambda one, other: one & other, set.intersection), (lambda one, other: one - other, set.difference)]
        for one_names in brute.subsets(N.names):
            for other_names in brute.subsets(N.names):
                one = EdgeSet.listed(N, one_names)
                other = EdgeSet.listed(SAME, other_names)
                for sign, expected in signs:
                    found = sign(one, other)
                    self.assertIs(type(found), EdgeSet)
                    self.assertEqual(found.names, tuple(sorted(expected(set(one_names), set(other_names)))))
                    self.assertEqual(found.network, N)
                self.assertIs(one.is_within(other), set(one_names) <= set(other_names))
                self.assertIs(one == other, one_names == other_names)
                self.assertIs(one != other, one_names != other_names)
                self.assertEqual([one.names, other.names], [one_names, other_names])

    def test_other_networks(self):
        one = EdgeSet(N, "ab", "bc")
        for network in OTHERS:
            for other in (EdgeSet(network, "ab", "bc"), EdgeSet(network)):
                calls = [lambda: one ^ other, lambda: one | other, lambda: one & other, lambda: one - other,
                         lambda: one.is_within(other), lambda: other ^ one, lambda: other.is_within(one)]
                for call in calls:
                    with self.assertRaises(OtherNetwork):
                        call()
                self.assertIs(one == other, False)

    def test_not_equal_to_other_kinds(self):
        for value in [*NO_NAMES, ("ab",), ["ab"], "ab", N]:
            self.assertIs(EdgeSet(N, "ab") == value, False)
            self.assertIs(value == EdgeSet(N, "ab"), False)

    def test_contains_len_and_bool(self):
        edge_set = EdgeSet(N, "ca", "ab")
        for value in [*NO_NAMES, "bc", "a", "zz"]:
            self.assertIs(value in edge_set, False)
        self.assertIs("ab" in edge_set and "ca" in edge_set, True)
        self.assertEqual([len(edge_set), len(EdgeSet(N)), len(EdgeSet(N, "ab", "ab"))], [2, 0, 1])
        self.assertEqual([bool(edge_set), bool(EdgeSet(N))], [True, False])


class Cuts(Case):
    def test_all_cuts_of_small_networks(self):
        for nodes, edges in brute.small_networks(60, 9):
            network = Network(nodes, edges)
            for some in brute.subsets(network.nodes):
                expected = [edge for edge in network.edges if (edge[1] in some) is not (edge[2] in some)]
                found = EdgeSet.cut(network, *some)
                self.assertIs(type(found), EdgeSet)
                self.assertEqual(found.names, brute.names_in(expected))
                self.assertEqual(found.network, network)
                self.assertEqual(EdgeSet.cut(network, *some, *some), found)

    def test_unknown_nodes(self):
        for value in [*NO_NAMES, "d", "ab"]:
            self.assertIs(self.assert_error(UnknownNode, value, EdgeSet.cut, N, "a", "a", value, "x"), value)

    def test_cut_of_nothing(self):
        self.assertEqual(EdgeSet.cut(N).names, ())
        self.assertEqual(EdgeSet.cut(network=N).names, ())


if __name__ == "__main__":
    unittest.main()
